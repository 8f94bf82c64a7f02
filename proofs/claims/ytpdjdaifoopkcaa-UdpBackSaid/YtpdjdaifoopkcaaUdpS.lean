/- Layer 6: the walk of UdpBack. -/
import Derived.Test.YtpdjdaifoopkcaaUdpP
set_option linter.unusedVariables false
set_option linter.unusedSimpArgs false
namespace Go.Proofs.Ytpdjdaifoopkcaa
open Go.ChangeShapes Go.WideShapes Go.ChangeAt Go.RowKit Go.Mtl
namespace Ud
open TcpM (psB psN psN_le)
open UdpM (totU totU_le errU errU_le datB dat ckU ckU_le fullN)
open SumM (add add_le turn)
open IpM (word word_lt twoB fourB)
open Ip (ret_int MadeO Row But u8_info own_bts own_lit row_of_own)

set_option maxHeartbeats 2000000 in
theorem udpBack_long (sr ds fr to bt : Nat) (A : Option Addr) (n c m : Nat) (A2 : Option Addr) (n2 c2 : Nat) (W : World) (hmc : m ≤ c) (hm : c ≤ 9223372036854775807)
    (hsh : ∀ W, Calls Try.prog 8 #[.slice A n c] W fun e w' => e = .returned (.slice A m c) ∧ W = w') (hl : 1472 < m) :
    Calls Try.prog 5 #[.int .u32 (sr : Int), .int .u32 (ds : Int), .int .u16 (fr : Int), .int .u16 (to : Int), .slice A n c, .slice A2 n2 c2, .int .u16 (bt : Int)] W fun e w' => e = .returned (.bool true) ∧ Below W.heap.size W w' := by
  have H0 := Lib.hid hsh
  have P1 := Lib.hid (build_long sr ds fr to A m c W hmc hm hl)
  have hl2 : (1472 : Int) < m := by omega
  clear hsh
  go_enter Try.func5, Try.ntmps5
  go_wp2_with (go_at_call 8; refine (H0.out _).mono ?_; rintro e w' ⟨rfl, rfl⟩)
  go_at_call 11
  refine P1.out.mono ?_
  rintro e w1 ⟨rfl, hb1⟩
  have HB1 := Lib.hid hb1
  clear hb1
  go_wp2_with fail
  go_at_call 10
  refine (awake_any _).mono ?_
  rintro e w3 ⟨rfl, hb3⟩
  have HB3 := Lib.hid (HB1.out.trans (hb3.mono HB1.out.size))
  clear hb3 HB1
  go_wp2_with fail
  go_ret
  exact ⟨rfl, HB3.out⟩

/-- What Parse answers of a datagram with one bit turned. -/
theorem turned (sr ds fr to : Nat) (x : List UInt8) (j p : Nat) (hfr : fr < 65536) (hto : to < 65536) (hn : 8 + x.length < 65536) (hj : j < 8 + x.length) (hp : p < 8) :
    ∃ V, pV (errU sr ds (turn (dat sr ds fr to x) j p)) (turn (dat sr ds fr to x) j p) = V ∧
      ((4 ≤ j ∧ j < 8 ∧ ∃ er : Nat, ((er : Int) != 0) = true ∧ er ≤ 7 ∧ V = badV er) ∨ (4 ≤ j ∧ j < 8 ∧ V = .tuple #[.int .u16 (fr : Int), .int .u16 (to : Int), .int .i64 0]) ∨ (j < 4 ∧ V = badV 7) ∨ (8 ≤ j ∧ V = badV 7)) := by
  refine ⟨_, rfl, ?_⟩
  by_cases h : j < 4 ∨ 8 ≤ j
  · have he := UdpM.turn_err sr ds fr to x j p hn hj hp h
    rw [he, pV_bad _ (by omega)]
    rcases h with h | h
    · exact .inr (.inr (.inl ⟨h, rfl⟩))
    · exact .inr (.inr (.inr ⟨h, rfl⟩))
  · have hel := errU_le sr ds (turn (dat sr ds fr to x) j p)
    by_cases h0 : errU sr ds (turn (dat sr ds fr to x) j p) = 0
    · rw [pV_ok _ h0]
      unfold okV
      have hl : j < (dat sr ds fr to x).length := by rw [UdpM.dat_len]; omega
      rw [UdpM.word_turn _ j p 0 hl (by omega) (by omega), UdpM.word_turn _ j p 2 hl (by omega) (by omega)]
      unfold dat
      rw [UdpM.dat_from _ _ _ _ hfr, UdpM.dat_to _ _ _ _ hto]
      exact .inr (.inl ⟨by omega, by omega, rfl⟩)
    · rw [pV_bad _ h0]
      exact .inl ⟨by omega, by omega, _, by simp; omega, hel, rfl⟩

set_option maxHeartbeats 8000000 in
theorem udpBack_ok (sr ds fr to bt : Nat) (A : Option Addr) (n c m : Nat) (A2 : Option Addr) (n2 c2 m2 : Nat) (bs ys : List UInt8) (W : World) (hmc : m ≤ c) (hm : c ≤ 9223372036854775807) (hmc2 : m2 ≤ c2) (hm2 : c2 ≤ 9223372036854775807) (hm6 : m2 ≤ 1600) (hsr : sr < 4294967296) (hds : ds < 4294967296) (hfr : fr < 65536) (hto : to < 65536) (hbt : bt < 65536)
    (hsh : ∀ W, Calls Try.prog 8 #[.slice A n c] W fun e w' => e = .returned (.slice A m c) ∧ W = w')
    (hsh2 : ∀ W, Calls Try.prog 8 #[.slice A2 n2 c2] W fun e w' => e = .returned (.slice A2 m2 c2) ∧ W = w') (hb : Bts W W.heap.size A m bs) (hy : Bts W W.heap.size A2 m2 ys) (hl : m ≤ 1472) :
    Calls Try.prog 5 #[.int .u32 (sr : Int), .int .u32 (ds : Int), .int .u16 (fr : Int), .int .u16 (to : Int), .slice A n c, .slice A2 n2 c2, .int .u16 (bt : Int)] W fun e w' => e = .returned (.bool true) ∧ Below W.heap.size W w' := by
  obtain ⟨i0, hi0, hz0, hz1, hz2⟩ := info_parts u8_info
  have H0 := Lib.hid hsh
  have H2 := Lib.hid hsh2
  have HY := Lib.hid hy
  have hbl := hb.len
  obtain ⟨N, hN⟩ : ∃ N, 8 + m = N := ⟨_, rfl⟩
  obtain ⟨L, hL⟩ : ∃ L, N + m2 = L := ⟨_, rfl⟩
  have hN3 : 8 + bs.length = N := by rw [hbl]; exact hN
  have hN1 : 8 ≤ N := by omega
  have hN2 : N ≤ 1480 := by omega
  have hL2 : L ≤ 3080 := by omega
  have HLL := Lib.hid hL
  obtain ⟨j, hj, hj2⟩ : ∃ j : Nat, (bt : Int) / 8 % N = (j : Int) ∧ j = bt / 8 % N := ⟨bt / 8 % N, by simp, rfl⟩
  obtain ⟨p, hp, hp2⟩ : ∃ p : Nat, (bt : Int) % 8 = (p : Int) ∧ p = bt % 8 := ⟨bt % 8, by omega, rfl⟩
  have hjN : j < N := by rw [hj2]; exact Nat.mod_lt _ (by omega)
  have hp8 : p < 8 := by omega
  have P1 : Hid (Calls Try.prog 11 #[.int .u32 (sr : Int), .int .u32 (ds : Int), .int .u16 (fr : Int), .int .u16 (to : Int), .slice A m c] W fun e w' =>
      ∃ g, e = .returned (.tuple #[.slice (some ⟨g, 0, none⟩) N N, .int .i64 0]) ∧ Hid (Row w' g (dat sr ds fr to bs)) ∧ W.heap.size ≤ g ∧ Below W.heap.size W w') := by
    subst hN3
    exact (build_ok sr ds fr to A m c bs W.heap.size W hb (Nat.le_refl _) hmc hm hl hsr hds hfr hto).mono fun e w' ⟨g, h1, h2, h3, h4⟩ => ⟨g, h1, h2, h3, h4⟩
  have P2 : Hid (∀ (A : Option Addr) (c : Nat) (W : World), Bts W W.heap.size A L (dat sr ds fr to bs ++ ys) → L ≤ c → c ≤ 9223372036854775807 → Calls Try.prog 7 #[.int .u32 (sr : Int), .int .u32 (ds : Int), .slice A L c] W fun e w' => e = .returned (.tuple #[.int .u16 (fr : Int), .int .u16 (to : Int), .int .i64 0]) ∧ Below W.heap.size W w') := by
    intro A c W hb hc hm
    have hp := parse_ok sr ds A L c _ W.heap.size W hb (Nat.le_refl _) hc hm hsr hds (UdpM.dat_err sr ds fr to bs ys (by omega))
    unfold okV at hp
    rw [UdpM.word_left _ _ _ (by rw [UdpM.dat_len]; omega), UdpM.word_left _ _ _ (by rw [UdpM.dat_len]; omega)] at hp
    unfold dat at hp
    rw [UdpM.dat_from _ _ _ _ hfr, UdpM.dat_to _ _ _ _ hto] at hp
    exact hp
  have h67 : ((byt (dat sr ds fr to bs) 6 : Int) == 0) = false ∨ (((byt (dat sr ds fr to bs) 6 : Int) == 0) = true ∧ ((byt (dat sr ds fr to bs) 7 : Int) == 0) = false) := by
    have h1 : byt (dat sr ds fr to bs) 6 * 256 + byt (dat sr ds fr to bs) 7 = ckU sr ds fr to bs := UdpM.dat_ck _ _ _ _ (by have := ckU_le sr ds fr to bs; omega)
    have h2 := UdpM.ckU_pos sr ds fr to bs
    by_cases h : byt (dat sr ds fr to bs) 6 = 0
    · exact .inr ⟨by simp; omega, by simp; omega⟩
    · exact .inl (by simp; omega)
  obtain ⟨V, hV, hcase⟩ := turned sr ds fr to bs j p hfr hto (by omega) (by omega) hp8
  have hLS : (dat sr ds fr to bs).length = N := by rw [UdpM.dat_len, hN3]
  have HLS := Lib.hid hLS
  generalize dat sr ds fr to bs = S at P1 P2 h67 hV HLS
  have HLT : Hid ((turn S j p).length = N) := by show _ = _; rw [SumM.turn_len, HLS.out]
  have hys := byt_lt S j
  have HX := Lib.hid (Sm.xor_turn (byt S j) p hys hp8)
  have P4 : Hid (∀ W g, Row W g (turn S j p) → Calls Try.prog 7 #[.int .u32 (sr : Int), .int .u32 (ds : Int), .slice (some ⟨g, 0, none⟩) N N] W fun e w' => e = .returned V ∧ Below W.heap.size W w') := by
    intro W' g hr
    have hb := hr.bts
    rw [HLT.out] at hb
    have h := parse_any sr ds (some ⟨g, 0, none⟩) N N _ W'.heap.size W' hb (Nat.le_refl _) (Nat.le_refl _) (by omega) hsr hds
    rw [hV] at h
    exact h
  have hjI : (j : Int) < N := by omega
  have e0 : (8 : Int) + m = N := by omega
  have i6 : (6 : Int) < N := by omega
  have i7 : (7 : Int) < N := by omega
  have HC := Lib.hid hcase
  clear hsh hsh2 hN hN3 hj2 hp2 hLS hV hb hy hL hbl hcase
  rcases h67 with d6 | ⟨d6, d7⟩
  all_goals
    go_enter Try.func5, Try.ntmps5
    go_wp2_with (go_at_call 8; refine (H0.out _).mono ?_; rintro e w' ⟨rfl, rfl⟩)
    go_at_call 11
    refine P1.out.mono ?_
    rintro e w1 ⟨g, rfl, HR1, hg, hb1⟩
    have HB1 := Lib.hid hb1
    have HT1 := HR1.out.bts
    rw [HLS.out] at HT1
    have HT1 := Lib.hid HT1
    clear hb1 P1
    go_wp2_with (first
      | (refine at_slot 54 ?_
         refine wpList_append_new rfl (.tmp 52) (.tmp 53) _ rfl 5 i0 Try.underlying23 hi0 hz0 hz1 hz2 rfl _ (some ⟨g, 0, none⟩) N N _ rfl HT1.out (Nat.le_refl _) (by omega) ?_
         intro A3 c3 w3 ho3 hb3 hc3
         have HO3 := Lib.hid ho3
         have HB3 := Lib.hid hb3
         clear ho3 hb3 hc3)
      | (go_at_call 8; refine (H2.out _).mono ?_; rintro e w' ⟨rfl, rfl⟩)
      | (refine at_slot 57 ?_
         refine wpList_append_hid (W0 := w1) L rfl (.tmp 54) (.tmp 56) _ rfl 5 i0 Try.underlying23 hi0 hz0 hz1 hz2 _ N _ rfl HO3.out HB3.out W.heap.size A2 m2 c2 ys rfl (HY.out.below (HB1.out.trans (HB3.out.mono HB1.out.size))) HLL.out (by omega) ?_
         intro A4 c4 w4 HO4 HB4 _ HC4
         clear HO3 HB3))
    go_at_call 7
    refine (P2.out A4 c4 w4 (own_bts HO4.out) HC4.out.1 HC4.out.2).mono ?_
    rintro e w5 ⟨rfl, hb5⟩
    have HB15 := Lib.hid (HB4.out.trans (hb5.mono HB4.out.size))
    have HR5 : Hid (Row w5 g S) := (HB15.out.block g HR1.out.lt).trans HR1.out
    have HB5 := Lib.hid (HB1.out.trans (HB15.out.mono HB1.out.size))
    clear hb5 HB15 HO4 HB4 HC4 HR1 HB1 HT1 P2
    have k6 := HR5.out.cell 6 (by rw [HLS.out]; omega)
    have k7 := HR5.out.cell 7 (by rw [HLS.out]; omega)
    have k0 := HR5.out.cell j (by rw [HLS.out]; omega)
    have k1 := HR5.out.frozen j
    go_wp2_with fail
    go_at_call 7
    have hr6 := HR5.out.set j _ (UInt8.ofNat (byt S j ^^^ 2 ^ p)) HX.out
    have HR6 : Hid (Row _ g (turn S j p)) := hr6
    have HB6 := Lib.hid (HB5.out.setCell (p := ⟨g, j, none⟩) hg (.int .u8 (bits .xor .u8 (byt S j : Int) (2 ^ p % 256))))
    clear hr6 k0 k1 k6 k7 HR5 HB5
    generalize w5.setCell ⟨g, j, none⟩ (.int .u8 (bits .xor .u8 (byt S j : Int) (2 ^ p % 256))) = w6 at HR6 HB6 ⊢
    refine (P4.out _ g HR6.out).mono ?_
    rintro e w7 ⟨rfl, hb7⟩
    have HB7 := Lib.hid (HB6.out.trans (hb7.mono HB6.out.size))
    clear hb7 HB6 HR6 P4
    rcases HC.out with ⟨hj4, hj8, er, der, hel, rfl⟩ | ⟨hj4, hj8, rfl⟩ | ⟨hj4, rfl⟩ | ⟨hj8, rfl⟩
    all_goals
      first | have hj4I : (4 : Int) ≤ j := by omega | skip
      first | have hj8I : (j : Int) < 8 := by omega | skip
      first | have hj4J : (j : Int) < 4 := by omega | skip
      first | have hj8J : (8 : Int) ≤ j := by omega | skip
      clear HC
      go_wp2_with fail
      go_at_call 10
      refine (awake_any _).mono ?_
      rintro e w8 ⟨rfl, hb8⟩
      have HB8 := Lib.hid (HB7.out.trans (hb8.mono HB7.out.size))
      clear hb8 HB7
      go_wp2_with fail
      go_ret
      exact ⟨rfl, HB8.out⟩

theorem udpBack_walk (a0 a1 a2 a3 : Int) (A : Option Addr) (n c : Nat) (bs : List UInt8) (A2 : Option Addr) (n2 c2 : Nat) (ys : List UInt8) (a6 : Int) (w : World) (w0 : 0 ≤ a0 ∧ a0 ≤ 4294967295) (w1 : 0 ≤ a1 ∧ a1 ≤ 4294967295) (w2 : 0 ≤ a2 ∧ a2 ≤ 65535) (w3 : 0 ≤ a3 ∧ a3 ≤ 65535) (w4 : Bts w w.heap.size A n bs) (hc : n ≤ c) (hm : c ≤ maxLen) (w5 : Bts w w.heap.size A2 n2 ys) (hc2 : n2 ≤ c2) (hm2 : c2 ≤ maxLen) (w6 : 0 ≤ a6 ∧ a6 ≤ 65535) :
    Calls Try.prog 5 #[.int .u32 a0, .int .u32 a1, .int .u16 a2, .int .u16 a3, .slice A n c, .slice A2 n2 c2, .int .u16 a6] w fun e w' => e = .returned (.bool true) ∧ Below w.heap.size w w' := by
  unfold maxLen at hm hm2
  obtain ⟨sr, rfl⟩ := Int.eq_ofNat_of_zero_le w0.1
  obtain ⟨ds, rfl⟩ := Int.eq_ofNat_of_zero_le w1.1
  obtain ⟨fr, rfl⟩ := Int.eq_ofNat_of_zero_le w2.1
  obtain ⟨to, rfl⟩ := Int.eq_ofNat_of_zero_le w3.1
  obtain ⟨bt, rfl⟩ := Int.eq_ofNat_of_zero_le w6.1
  by_cases hl : 1472 < min n 1600
  · exact udpBack_long sr ds fr to bt A n c (min n 1600) A2 n2 c2 w (by omega) (by omega) (fun W => short_any A n c hc (by omega) W) hl
  · exact udpBack_ok sr ds fr to bt A n c (min n 1600) A2 n2 c2 (min n2 1600) (bs.take 1600) (ys.take 1600) w (by omega) (by omega) (by omega) (by omega) (by omega) (by omega) (by omega) (by omega) (by omega) (by omega) (fun W => short_any A n c hc (by omega) W) (fun W => short_any A2 n2 c2 hc2 (by omega) W) (w4.take 1600) (w5.take 1600) (by omega)

end Ud
end Go.Proofs.Ytpdjdaifoopkcaa
