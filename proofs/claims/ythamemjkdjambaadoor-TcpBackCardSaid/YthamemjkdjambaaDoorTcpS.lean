/- Layer 5: the walk of TcpBack. -/
import Derived.Test.YthamemjkdjambaaDoorTcpP
import Derived.Test.YthamemjkdjambaaDoorSumD
set_option linter.unusedVariables false
set_option linter.unusedSimpArgs false
namespace Go.Proofs.YthamemjkdjambaaDoor
open Go.ChangeShapes Go.WideShapes Go.ChangeAt Go.RowKit Go.Mtl
namespace Tc
open TcpM (saneB psB psN totN psN_le totN_le errT errT_le segB seg ckN row1)
open SumM (add add_le turn)
open IpM (word word_lt twoB fourB)
open Ip (ret_int MadeO Row But u8_info own_bts own_lit)

set_option maxHeartbeats 2000000 in
theorem tcpBack_bad (sr ds fr to f bt : Nat) (A : Option Addr) (n c m : Nat) (W : World) (hf : f < 256)
    (hsh : ∀ W, Calls Tryd.prog 8 #[.slice A n c] W fun e w' => e = .returned (.slice A m c) ∧ W = w') (he : Env W) (hx : saneB f = false ∨ 64 ≤ f) :
    Calls Tryd.prog 5 #[.int .u32 (sr : Int), .int .u32 (ds : Int), .int .u16 (fr : Int), .int .u16 (to : Int), .int .u8 (f : Int), .slice A n c, .int .u16 (bt : Int)] W fun e w' => e = .returned (.bool true) ∧ Below W.heap.size W w' := by
  have H0 := Lib.hid hsh
  have P1 := Lib.hid (build_bad sr ds fr to f A m c f hf rfl W he hx)
  have HE := Lib.hid he
  clear hsh he hx
  go_enter Tryd.func5, Tryd.ntmps5
  go_wp2_with (go_at_call 8; refine (H0.out _).mono ?_; rintro e w' ⟨rfl, rfl⟩)
  go_at_call 11
  refine P1.out.mono ?_
  rintro e w1 ⟨rfl, hb1⟩
  have HE1 := Lib.hid (HE.out.below hb1 (Nat.le_refl _))
  have HB1 := Lib.hid hb1
  clear hb1 HE
  go_wp2_with fail
  go_at_call 10
  refine (awake_any _ HE1.out).mono ?_
  rintro e w3 ⟨rfl, hb3⟩
  have HB3 := Lib.hid (HB1.out.trans (hb3.mono HB1.out.size))
  clear hb3 HE1 HB1
  go_wp2_with fail
  go_ret
  exact ⟨rfl, HB3.out⟩

set_option maxHeartbeats 2000000 in
theorem tcpBack_long (sr ds fr to f bt : Nat) (A : Option Addr) (n c m : Nat) (W : World) (hmc : m ≤ c) (hm : c ≤ 9223372036854775807) (hf : f < 64)
    (hsh : ∀ W, Calls Tryd.prog 8 #[.slice A n c] W fun e w' => e = .returned (.slice A m c) ∧ W = w') (he : Env W) (hx : saneB f = true) (hl : 1460 < m) :
    Calls Tryd.prog 5 #[.int .u32 (sr : Int), .int .u32 (ds : Int), .int .u16 (fr : Int), .int .u16 (to : Int), .int .u8 (f : Int), .slice A n c, .int .u16 (bt : Int)] W fun e w' => e = .returned (.bool true) ∧ Below W.heap.size W w' := by
  have H0 := Lib.hid hsh
  have P1 := Lib.hid (build_long sr ds fr to f A m c f hf rfl W he hx hmc hm hl)
  have HE := Lib.hid he
  have hl2 : (1460 : Int) < m := by omega
  clear hsh he hx
  go_enter Tryd.func5, Tryd.ntmps5
  go_wp2_with (go_at_call 8; refine (H0.out _).mono ?_; rintro e w' ⟨rfl, rfl⟩)
  go_at_call 11
  refine P1.out.mono ?_
  rintro e w1 ⟨rfl, hb1⟩
  have HE1 := Lib.hid (HE.out.below hb1 (Nat.le_refl _))
  have HB1 := Lib.hid hb1
  clear hb1 HE
  go_wp2_with fail
  go_at_call 10
  refine (awake_any _ HE1.out).mono ?_
  rintro e w3 ⟨rfl, hb3⟩
  have HB3 := Lib.hid (HB1.out.trans (hb3.mono HB1.out.size))
  clear hb3 HE1 HB1
  go_wp2_with fail
  go_ret
  exact ⟨rfl, HB3.out⟩

/-- A segment that was built, parsed between these addresses, or exchanged. -/
theorem parse_seg (s1 d1 sr ds fr to f : Nat) (g N : Nat) (x : List UInt8) (W : World) (hr : Row W g (seg sr ds fr to f x)) (hN : 20 + x.length = N) (hN2 : N ≤ 1480) (hsr : s1 < 4294967296) (hds : d1 < 4294967296) (hfr : fr < 65536) (hto : to < 65536) (hf : f < 64) (hs : saneB f = true) (he : Env W)
    (h : (s1 = sr ∧ d1 = ds) ∨ (s1 = ds ∧ d1 = sr)) :
    Calls Tryd.prog 7 #[.int .u32 (s1 : Int), .int .u32 (d1 : Int), .slice (some ⟨g, 0, none⟩) N N] W fun e w' => e = .returned (.tuple #[.int .u16 (fr : Int), .int .u16 (to : Int), .int .u8 (f : Int), .int .i64 0]) ∧ Below W.heap.size W w' := by
  have h0 : errT s1 d1 (seg sr ds fr to f x) = 0 := by
    have := TcpM.seg_err sr ds fr to f x (by omega) hs
    rcases h with ⟨rfl, rfl⟩ | ⟨rfl, rfl⟩
    · exact this
    · rw [TcpM.errT_swap]; exact this
  have hb := hr.bts
  rw [TcpM.seg_len, hN] at hb
  have hp := parse_ok s1 d1 (some ⟨g, 0, none⟩) N N _ W.heap.size W hb (Nat.le_refl _) (Nat.le_refl _) (by omega) hsr hds he h0
  unfold okV at hp
  unfold seg at hp
  rw [TcpM.seg_from _ _ _ _ _ hfr, TcpM.seg_to _ _ _ _ _ hto, TcpM.seg_flags _ _ _ _ _ (by omega : f < 256), show (f : Int) % 64 = (f : Int) by omega] at hp
  exact hp

theorem errT_turned (sr ds fr to f : Nat) (x : List UInt8) (j p : Nat) (hj : j < 20 + x.length) (hp : p < 8) : errT sr ds (turn (seg sr ds fr to f x) j p) = 7 ∨ errT sr ds (turn (seg sr ds fr to f x) j p) = 6 ∨ errT sr ds (turn (seg sr ds fr to f x) j p) = 4 :=
  TcpM.turn_err sr ds _ j p (by rw [TcpM.seg_len]; exact hj) hp (by rw [TcpM.seg_len]; omega) (TcpM.seg_sum _ _ _ _ _ _)

set_option maxHeartbeats 4000000 in
theorem tcpBack_ok (sr ds fr to f bt : Nat) (A : Option Addr) (n c m : Nat) (bs : List UInt8) (W : World) (hmc : m ≤ c) (hm : c ≤ 9223372036854775807) (hsr : sr < 4294967296) (hds : ds < 4294967296) (hfr : fr < 65536) (hto : to < 65536) (hf : f < 64) (hbt : bt < 65536)
    (hsh : ∀ W, Calls Tryd.prog 8 #[.slice A n c] W fun e w' => e = .returned (.slice A m c) ∧ W = w') (hb : Bts W W.heap.size A m bs) (he : Env W) (hx : saneB f = true) (hl : m ≤ 1460) :
    Calls Tryd.prog 5 #[.int .u32 (sr : Int), .int .u32 (ds : Int), .int .u16 (fr : Int), .int .u16 (to : Int), .int .u8 (f : Int), .slice A n c, .int .u16 (bt : Int)] W fun e w' => e = .returned (.bool true) ∧ Below W.heap.size W w' := by
  have H0 := Lib.hid hsh
  have HE := Lib.hid he
  obtain ⟨N, hN⟩ : ∃ N, 20 + m = N := ⟨_, rfl⟩
  have hN3 : 20 + bs.length = N := by rw [hb.len]; exact hN
  have hN1 : 20 ≤ N := by omega
  have hN2 : N ≤ 1480 := by omega
  obtain ⟨j, hj, hj2⟩ : ∃ j : Nat, (bt : Int) / 8 % N = (j : Int) ∧ j = bt / 8 % N := ⟨bt / 8 % N, by simp, rfl⟩
  obtain ⟨p, hp, hp2⟩ : ∃ p : Nat, (bt : Int) % 8 = (p : Int) ∧ p = bt % 8 := ⟨bt % 8, by omega, rfl⟩
  have hjN : j < N := by rw [hj2]; exact Nat.mod_lt _ (by omega)
  have hp8 : p < 8 := by omega
  have P1 : Hid (Calls Tryd.prog 11 #[.int .u32 (sr : Int), .int .u32 (ds : Int), .int .u16 (fr : Int), .int .u16 (to : Int), .int .u8 (f : Int), .slice A m c] W fun e w' =>
      ∃ g, e = .returned (.tuple #[.slice (some ⟨g, 0, none⟩) N N, .int .i64 0]) ∧ Hid (Row w' g (seg sr ds fr to f bs)) ∧ W.heap.size ≤ g ∧ Below W.heap.size W w') := by
    subst hN3
    exact (build_ok sr ds fr to f A m c bs W.heap.size W hb (Nat.le_refl _) hmc hm hl hsr hds hfr hto hf hx he).mono fun e w' ⟨g, h1, h2, h3, h4⟩ => ⟨g, h1, h2, h3, h4⟩
  have P2 := Lib.hid (fun W g hr he => parse_seg sr ds sr ds fr to f g N bs W hr hN3 hN2 hsr hds hfr hto hf hx he (.inl ⟨rfl, rfl⟩))
  have P3 := Lib.hid (fun W g hr he => parse_seg ds sr sr ds fr to f g N bs W hr hN3 hN2 hds hsr hfr hto hf hx he (.inr ⟨rfl, rfl⟩))
  have ET := errT_turned sr ds fr to f bs j p (by omega) hp8
  have hLS : (seg sr ds fr to f bs).length = N := by rw [TcpM.seg_len, hN3]
  have HLS := Lib.hid hLS
  generalize seg sr ds fr to f bs = S at P1 P2 P3 ET HLS
  have HLT : Hid ((turn S j p).length = N) := by show _ = _; rw [SumM.turn_len, HLS.out]
  have hys := byt_lt S j
  have HX := Lib.hid (Sm.xor_turn (byt S j) p hys hp8)
  obtain ⟨er, her, hcase⟩ : ∃ er, errT sr ds (turn S j p) = er ∧ (er = 7 ∨ er = 6 ∨ er = 4) := ⟨_, rfl, ET⟩
  have P4 : Hid (∀ W g, Row W g (turn S j p) → Env W → Calls Tryd.prog 7 #[.int .u32 (sr : Int), .int .u32 (ds : Int), .slice (some ⟨g, 0, none⟩) N N] W fun e w' => e = .returned (badV er) ∧ Below W.heap.size W w') := by
    intro W' g hr he'
    have hb := hr.bts
    rw [HLT.out] at hb
    have h := parse_bad sr ds (some ⟨g, 0, none⟩) N N _ W'.heap.size W' hb (Nat.le_refl _) (Nat.le_refl _) (by omega) hsr hds he' (by omega)
    rw [her] at h
    exact h
  have hjI : (j : Int) < N := by omega
  have e0 : (20 : Int) + m = N := by omega
  clear hsh he hx hN hN3 hj2 hp2 hLS ET her hb
  go_enter Tryd.func5, Tryd.ntmps5
  go_wp2_with (go_at_call 8; refine (H0.out _).mono ?_; rintro e w' ⟨rfl, rfl⟩)
  go_at_call 11
  refine P1.out.mono ?_
  rintro e w1 ⟨g, rfl, HR1, hg, hb1⟩
  have HE1 := Lib.hid (HE.out.below hb1 (Nat.le_refl _))
  have HB1 := Lib.hid hb1
  clear hb1 P1
  go_wp2_with fail
  go_at_call 7
  refine (P2.out _ g HR1.out HE1.out).mono ?_
  rintro e w2 ⟨rfl, hb2⟩
  have HR2 : Hid (Row w2 g S) := (hb2.block g HR1.out.lt).trans HR1.out
  have HE2 := Lib.hid (HE1.out.below hb2 (Nat.le_refl _))
  have HB2 := Lib.hid (HB1.out.trans (hb2.mono HB1.out.size))
  clear hb2 HE1 HB1 HR1 P2
  go_wp2_with fail
  go_at_call 7
  refine (P3.out _ g HR2.out HE2.out).mono ?_
  rintro e w3 ⟨rfl, hb3⟩
  have HR3 : Hid (Row w3 g S) := (hb3.block g HR2.out.lt).trans HR2.out
  have HB3 := Lib.hid (HB2.out.trans (hb3.mono HB2.out.size))
  clear hb3 HE2 HB2 HR2 P3
  have k0 := HR3.out.cell j (by rw [HLS.out]; omega)
  have k1 := HR3.out.frozen j
  go_wp2_with fail
  go_at_call 7
  have hr4 := HR3.out.set j _ (UInt8.ofNat (byt S j ^^^ 2 ^ p)) HX.out
  have HR4 : Hid (Row _ g (turn S j p)) := hr4
  have HB4 := Lib.hid (HB3.out.setCell (p := ⟨g, j, none⟩) hg (.int .u8 (bits .xor .u8 (byt S j : Int) (2 ^ p % 256))))
  have HE4 := Lib.hid (HE.out.below HB4.out (Nat.le_refl _))
  clear hr4 k0 k1 HR3 HB3
  generalize w3.setCell ⟨g, j, none⟩ (.int .u8 (bits .xor .u8 (byt S j : Int) (2 ^ p % 256))) = w4 at HR4 HB4 HE4 ⊢
  refine (P4.out _ g HR4.out HE4.out).mono ?_
  rintro e w5 ⟨rfl, hb5⟩
  have HE5 := Lib.hid (HE4.out.below hb5 (Nat.le_refl _))
  have HB5 := Lib.hid (HB4.out.trans (hb5.mono HB4.out.size))
  clear hb5 HE4 HB4 HR4 P4
  go_wp2_with fail
  go_at_call 10
  refine (awake_any _ HE5.out).mono ?_
  rintro e w6 ⟨rfl, hb6⟩
  have HB6 := Lib.hid (HB5.out.trans (hb6.mono HB5.out.size))
  clear hb6 HE5 HB5
  rcases hcase with rfl | rfl | rfl
  all_goals
    go_wp2_with fail
    go_ret
    exact ⟨rfl, HB6.out⟩

theorem tcpBack_walk (a0 a1 a2 a3 a4 : Int) (A : Option Addr) (n c : Nat) (bs : List UInt8) (a6 : Int) (w : World) (he : Env w) (w0 : 0 ≤ a0 ∧ a0 ≤ 4294967295) (w1 : 0 ≤ a1 ∧ a1 ≤ 4294967295) (w2 : 0 ≤ a2 ∧ a2 ≤ 65535) (w3 : 0 ≤ a3 ∧ a3 ≤ 65535) (w4 : 0 ≤ a4 ∧ a4 ≤ 255)
    (w5 : Bts w w.heap.size A n bs) (hc : n ≤ c) (hm : c ≤ maxLen) (w6 : 0 ≤ a6 ∧ a6 ≤ 65535) :
    Calls Tryd.prog 5 #[.int .u32 a0, .int .u32 a1, .int .u16 a2, .int .u16 a3, .int .u8 a4, .slice A n c, .int .u16 a6] w fun e w' => e = .returned (.bool true) ∧ Below w.heap.size w w' := by
  unfold maxLen at hm
  obtain ⟨sr, rfl⟩ := Int.eq_ofNat_of_zero_le w0.1
  obtain ⟨ds, rfl⟩ := Int.eq_ofNat_of_zero_le w1.1
  obtain ⟨fr, rfl⟩ := Int.eq_ofNat_of_zero_le w2.1
  obtain ⟨to, rfl⟩ := Int.eq_ofNat_of_zero_le w3.1
  obtain ⟨f, rfl⟩ := Int.eq_ofNat_of_zero_le w4.1
  obtain ⟨bt, rfl⟩ := Int.eq_ofNat_of_zero_le w6.1
  have hsh := fun W => short_any A n c hc (by omega) W
  have hb := w5.take 1600
  by_cases h : saneB f = false ∨ 64 ≤ f
  · exact tcpBack_bad sr ds fr to f bt A n c (min n 1600) w (by omega) hsh he h
  · have hx : saneB f = true := by cases hs : saneB f <;> simp_all
    have hf6 : f < 64 := by omega
    by_cases hl : 1460 < min n 1600
    · exact tcpBack_long sr ds fr to f bt A n c (min n 1600) w (by omega) (by omega) hf6 hsh he hx hl
    · exact tcpBack_ok sr ds fr to f bt A n c (min n 1600) (bs.take 1600) w (by omega) (by omega) (by omega) (by omega) (by omega) (by omega) hf6 (by omega) hsh hb he hx (by omega)

end Tc
end Go.Proofs.YthamemjkdjambaaDoor
