/- Layer 8: the walks of WireParses and WireSane. -/
import Derived.Test.YtjbdjplliieelaaDoorWirP
import Derived.Test.YtjbdjplliieelaaDoorWirB
set_option linter.unusedVariables false
set_option linter.unusedSimpArgs false
namespace Go.Proofs.YtjbdjplliieelaaDoor
open Go.ChangeShapes Go.WideShapes Go.ChangeAt Go.RowKit Go.Mtl
namespace Wi
open IpM (word four hs tl tl_lt word_lt four_lt errC errN body)
open WirM (errW errW_le spN dpN flN kdN pk0)
open Ip (Row)

/-- The answer, in plain fields. -/
theorem wV_is (bs : List UInt8) : ∃ (a b c d e f h : Int) (er : Nat), er ≤ 11 ∧ wV bs = .tuple #[.agg (pkt a b c d e f h), .int .i64 (er : Int)] := by
  by_cases h : errW bs = 0
  · exact ⟨_, _, _, _, _, _, _, 0, by omega, wV_ok h⟩
  · exact ⟨_, _, _, _, _, _, _, _, errW_le bs, wV_bad h⟩

set_option maxHeartbeats 2000000 in
theorem wireParses_core (A : Option Addr) (n c m : Nat) (bs : List UInt8) (W : World) (hmc : m ≤ c) (hm : c ≤ 9223372036854775807) (hm6 : m ≤ 1600)
    (hsh : ∀ W, Calls Tryd.prog 7 #[.slice A n c] W fun e w' => e = .returned (.slice A m c) ∧ W = w') (hb : Bts W W.heap.size A m bs) (he : Tc.Env W) :
    Calls Tryd.prog 3 #[.slice A n c] W fun e w' => e = .returned (.bool true) ∧ Below W.heap.size W w' := by
  have H0 := Lib.hid hsh
  have HB := Lib.hid hb
  have HE := Lib.hid he
  have P1 := Lib.hid (fun W' (hb : Bts W' W.heap.size A m bs) h he => parse_any A m c bs W.heap.size W' hb h hmc hm he)
  have P2 := Lib.hid (fun W' (hb : Bts W' W.heap.size A m bs) h => refParse_any A m c bs W.heap.size W' hb h hmc hm)
  obtain ⟨va, vb, vc, vd, ve, vf, vh, er, her, hV⟩ := wV_is bs
  rw [hV] at P1 P2
  clear hsh hb he hV
  go_enter Tryd.func3, Tryd.ntmps3
  go_wp2_with (go_at_call 7; refine (H0.out _).mono ?_; rintro e w' ⟨rfl, rfl⟩)
  go_at_call 6
  refine (P1.out _ HB.out (Nat.le_refl _) HE.out).mono ?_
  rintro e w1 ⟨rfl, hb1⟩
  have hbx := (Below.refl _ w1).alloc (Nat.le_refl _) (.cells (pkt va vb vc vd ve vf vh) 26)
  have HX1 := Lib.hid (Pk.box w1 0 0 0 0 0 0 0)
  have HP1 := Lib.hid (Pk.box w1 va vb vc vd ve vf vh)
  have HE1 := Lib.hid ((HE.out.below hb1 (Nat.le_refl _)).below hbx (Nat.le_refl _))
  have HB1 := Lib.hid (hb1.trans (hbx.mono hb1.size))
  clear hb1 hbx HE
  obtain ⟨x0, x1, x2, x3, x4, x5, x6⟩ := HX1.out.cells
  obtain ⟨g0, g1, g2, g3, g4, g5, g6⟩ := HX1.out.frozen
  go_wp2_with (go_at_call 7; refine (H0.out _).mono ?_; rintro e w' ⟨rfl, rfl⟩)
  go_at_call 8
  refine (P2.out _ (HB.out.below HB1.out) HB1.out.size).mono ?_
  rintro e w2 ⟨rfl, hb2⟩
  have hbx := (Below.refl _ w2).alloc (Nat.le_refl _) (.cells (pkt va vb vc vd ve vf vh) 26)
  have HX2 := Lib.hid (Pk.box w2 0 0 0 0 0 0 0)
  have HP2 := Lib.hid ((HP1.out.next hb2).next hbx)
  have HQ2 := Lib.hid (Pk.box w2 va vb vc vd ve vf vh)
  have HE2 := Lib.hid ((HE1.out.below hb2 (Nat.le_refl _)).below hbx (Nat.le_refl _))
  have hb12 := HB1.out.trans (hb2.mono HB1.out.size)
  have HB2 := Lib.hid (hb12.trans (hbx.mono hb12.size))
  clear hb2 hbx hb12 HE1 HX1 HP1 HB1 x0 x1 x2 x3 x4 x5 x6 g0 g1 g2 g3 g4 g5 g6
  obtain ⟨x0, x1, x2, x3, x4, x5, x6⟩ := HX2.out.cells
  obtain ⟨g0, g1, g2, g3, g4, g5, g6⟩ := HX2.out.frozen
  go_wp2_with fail
  go_at_call 9
  refine (awake_any _ HE2.out).mono ?_
  rintro e w3 ⟨rfl, hb3⟩
  have HP3 := Lib.hid (HP2.out.next hb3)
  have HQ3 := Lib.hid (HQ2.out.next hb3)
  have HB3 := Lib.hid (HB2.out.trans (hb3.mono HB2.out.size))
  clear hb3 HX2 HP2 HQ2 HE2 HB2 x0 x1 x2 x3 x4 x5 x6 g0 g1 g2 g3 g4 g5 g6
  obtain ⟨x0, x1, x2, x3, x4, x5, x6⟩ := HP3.out.cells
  obtain ⟨y0, y1, y2, y3, y4, y5, y6⟩ := HQ3.out.cells
  go_wp2_with fail
  go_ret
  exact ⟨rfl, HB3.out⟩

theorem wireParses_walk (a0 : Option Addr) (n0 c0 : Nat) (b0 : List UInt8) (w : World) (he : Tc.Env w) (w0 : Bts w w.heap.size a0 n0 b0) (hc0 : n0 ≤ c0) (hm0 : c0 ≤ maxLen) :
    Calls Tryd.prog 3 #[.slice a0 n0 c0] w fun e w' => e = .returned (.bool true) ∧ Below w.heap.size w w' := by
  unfold maxLen at hm0
  exact wireParses_core a0 n0 c0 _ _ w (by omega) (by omega) (by omega) (fun W => short_any a0 n0 c0 hc0 (by omega) W) (w0.take 1600) he

/-- Arithmetic of flags, as the walk writes it. -/
theorem flag_bits : ∀ f : Fin 64, (bits .and .u8 ((f.val &&& 7 : Nat) : Int) ((((f.val &&& 7 : Nat) : Int) - 1) % 256) == 0) = decide (((f.val &&& 7) &&& (((f.val &&& 7) + 255) % 256)) = 0) ∧ bits .and .u8 (f.val : Int) 7 = ((f.val &&& 7 : Nat) : Int) ∧ bits .and .u8 (f.val : Int) 22 = ((f.val &&& 22 : Nat) : Int) := by decide +kernel

theorem sane_tcp {bs : List UInt8} (h : errW bs = 0) (h9 : byt bs 9 = 6) : ∃ (s d sp dp : Int) (fl n a : Nat), wV bs = .tuple #[.agg (pkt 6 s d sp dp (fl : Int) 0), .int .i64 0] ∧ fl < 64 ∧
    bits .and .u8 (fl : Int) 7 = (n : Int) ∧ (bits .and .u8 (n : Int) (((n : Int) - 1) % 256) == 0) = true ∧ bits .and .u8 (fl : Int) 22 = (a : Int) ∧ ((a : Int) != 0) = true := by
  obtain ⟨h1, h2⟩ := WirM.flags h h9
  obtain ⟨e1, e2, e3⟩ := flag_bits ⟨flN bs, WirM.flN_lt bs⟩
  refine ⟨four bs 12, four bs 16, spN bs, dpN bs, flN bs, flN bs &&& 7, flN bs &&& 22, ?_, WirM.flN_lt bs, e2, e1.trans (decide_eq_true h1), e3, by simp; omega⟩
  rw [wV_ok h]
  unfold okV packV kdN
  rw [if_neg (by omega), h9]
  rfl
theorem sane_udp {bs : List UInt8} (h : errW bs = 0) (h9 : byt bs 9 = 17) : ∃ (s d sp dp : Int), wV bs = .tuple #[.agg (pkt 17 s d sp dp 0 0), .int .i64 0] := by
  refine ⟨four bs 12, four bs 16, spN bs, dpN bs, ?_⟩
  rw [wV_ok h]
  unfold okV packV kdN flN
  rw [if_neg (by omega), if_neg (by omega), h9]
  rfl
theorem sane_icmp {bs : List UInt8} (h : errW bs = 0) (h9 : byt bs 9 = 1) : ∃ (s d p : Int) (k : Nat), wV bs = .tuple #[.agg (pkt 1 s d p p 0 (k : Int)), .int .i64 0] ∧ (k = 8 ∨ k = 0) := by
  refine ⟨four bs 12, four bs 16, word (body bs) 4, kdN bs, ?_, WirM.kinds h h9⟩
  rw [wV_ok h]
  unfold okV packV flN spN dpN
  rw [if_pos h9, if_pos h9, if_neg (by omega), h9]
  rfl

set_option maxHeartbeats 2000000 in
theorem wireSane_bad (A : Option Addr) (n c m : Nat) (bs : List UInt8) (W : World) (hmc : m ≤ c) (hm : c ≤ 9223372036854775807)
    (hsh : ∀ W, Calls Tryd.prog 7 #[.slice A n c] W fun e w' => e = .returned (.slice A m c) ∧ W = w') (hb : Bts W W.heap.size A m bs) (he : Tc.Env W) (h0 : errW bs ≠ 0) :
    Calls Tryd.prog 4 #[.slice A n c] W fun e w' => e = .returned (.bool true) ∧ Below W.heap.size W w' := by
  have H0 := Lib.hid hsh
  have HB := Lib.hid hb
  have HE := Lib.hid he
  have P1 := Lib.hid (fun W' (hb : Bts W' W.heap.size A m bs) h he => parse_any A m c bs W.heap.size W' hb h hmc hm he)
  have hV := wV_bad h0
  rw [hV] at P1
  have d : ((errW bs : Int) != 0) = true := by simp; omega
  generalize errW bs = er at P1 d hV
  clear hsh hb he hV h0
  go_enter Tryd.func4, Tryd.ntmps4
  go_wp2_with (go_at_call 7; refine (H0.out _).mono ?_; rintro e w' ⟨rfl, rfl⟩)
  go_at_call 6
  refine (P1.out _ HB.out (Nat.le_refl _) HE.out).mono ?_
  rintro e w1 ⟨rfl, hb1⟩
  have hbx := (Below.refl _ w1).alloc (Nat.le_refl _) (.cells (pkt 0 0 0 0 0 0 0) 26)
  have HX1 := Lib.hid (Pk.box w1 0 0 0 0 0 0 0)
  have HP1 := Lib.hid (Pk.box w1 0 0 0 0 0 0 0)
  have HE1 := Lib.hid ((HE.out.below hb1 (Nat.le_refl _)).below hbx (Nat.le_refl _))
  have HB1 := Lib.hid (hb1.trans (hbx.mono hb1.size))
  clear hb1 hbx HE
  obtain ⟨x0, x1, x2, x3, x4, x5, x6⟩ := HX1.out.cells
  obtain ⟨g0, g1, g2, g3, g4, g5, g6⟩ := HX1.out.frozen
  obtain ⟨y0, y1, y2, y3, y4, y5, y6⟩ := HP1.out.cells
  go_wp2_with fail
  go_at_call 9
  refine (awake_any _ HE1.out).mono ?_
  rintro e w3 ⟨rfl, hb3⟩
  have HP3 := Lib.hid (HP1.out.next hb3)
  have HB3 := Lib.hid (HB1.out.trans (hb3.mono HB1.out.size))
  clear hb3 HP1 HE1 HB1 HX1 x0 x1 x2 x3 x4 x5 x6 g0 g1 g2 g3 g4 g5 g6 y0 y1 y2 y3 y4 y5 y6
  obtain ⟨x0, x1, x2, x3, x4, x5, x6⟩ := HP3.out.cells
  go_wp2_with fail
  go_ret
  exact ⟨rfl, HB3.out⟩

set_option maxHeartbeats 2000000 in
theorem wireSane_tcp (A : Option Addr) (n c m : Nat) (bs : List UInt8) (W : World) (hmc : m ≤ c) (hm : c ≤ 9223372036854775807)
    (hsh : ∀ W, Calls Tryd.prog 7 #[.slice A n c] W fun e w' => e = .returned (.slice A m c) ∧ W = w') (hb : Bts W W.heap.size A m bs) (he : Tc.Env W) (h0 : errW bs = 0) (h9 : byt bs 9 = 6) :
    Calls Tryd.prog 4 #[.slice A n c] W fun e w' => e = .returned (.bool true) ∧ Below W.heap.size W w' := by
  have H0 := Lib.hid hsh
  have HB := Lib.hid hb
  have HE := Lib.hid he
  have P1 := Lib.hid (fun W' (hb : Bts W' W.heap.size A m bs) h he => parse_any A m c bs W.heap.size W' hb h hmc hm he)
  obtain ⟨s, d, sp, dp, fl, nn, aa, hV, hfl, b1, b2, b3, b4⟩ := sane_tcp h0 h9
  rw [hV] at P1
  have b5 : ((fl : Int) < 64) := by omega
  clear hsh hb he hV h0
  go_enter Tryd.func4, Tryd.ntmps4
  go_wp2_with (go_at_call 7; refine (H0.out _).mono ?_; rintro e w' ⟨rfl, rfl⟩)
  go_at_call 6
  refine (P1.out _ HB.out (Nat.le_refl _) HE.out).mono ?_
  rintro e w1 ⟨rfl, hb1⟩
  have hbx := (Below.refl _ w1).alloc (Nat.le_refl _) (.cells (pkt 6 s d sp dp fl 0) 26)
  have HX1 := Lib.hid (Pk.box w1 0 0 0 0 0 0 0)
  have HP1 := Lib.hid (Pk.box w1 6 s d sp dp fl 0)
  have HE1 := Lib.hid ((HE.out.below hb1 (Nat.le_refl _)).below hbx (Nat.le_refl _))
  have HB1 := Lib.hid (hb1.trans (hbx.mono hb1.size))
  clear hb1 hbx HE
  obtain ⟨x0, x1, x2, x3, x4, x5, x6⟩ := HX1.out.cells
  obtain ⟨g0, g1, g2, g3, g4, g5, g6⟩ := HX1.out.frozen
  obtain ⟨y0, y1, y2, y3, y4, y5, y6⟩ := HP1.out.cells
  go_wp2_with fail
  go_at_call 9
  refine (awake_any _ HE1.out).mono ?_
  rintro e w3 ⟨rfl, hb3⟩
  have HP3 := Lib.hid (HP1.out.next hb3)
  have HB3 := Lib.hid (HB1.out.trans (hb3.mono HB1.out.size))
  clear hb3 HP1 HE1 HB1 HX1 x0 x1 x2 x3 x4 x5 x6 g0 g1 g2 g3 g4 g5 g6 y0 y1 y2 y3 y4 y5 y6
  obtain ⟨x0, x1, x2, x3, x4, x5, x6⟩ := HP3.out.cells
  go_wp2_with fail
  go_ret
  exact ⟨rfl, HB3.out⟩

set_option maxHeartbeats 2000000 in
theorem wireSane_udp (A : Option Addr) (n c m : Nat) (bs : List UInt8) (W : World) (hmc : m ≤ c) (hm : c ≤ 9223372036854775807)
    (hsh : ∀ W, Calls Tryd.prog 7 #[.slice A n c] W fun e w' => e = .returned (.slice A m c) ∧ W = w') (hb : Bts W W.heap.size A m bs) (he : Tc.Env W) (h0 : errW bs = 0) (h9 : byt bs 9 = 17) :
    Calls Tryd.prog 4 #[.slice A n c] W fun e w' => e = .returned (.bool true) ∧ Below W.heap.size W w' := by
  have H0 := Lib.hid hsh
  have HB := Lib.hid hb
  have HE := Lib.hid he
  have P1 := Lib.hid (fun W' (hb : Bts W' W.heap.size A m bs) h he => parse_any A m c bs W.heap.size W' hb h hmc hm he)
  obtain ⟨s, d, sp, dp, hV⟩ := sane_udp h0 h9
  rw [hV] at P1
  clear hsh hb he hV h0
  go_enter Tryd.func4, Tryd.ntmps4
  go_wp2_with (go_at_call 7; refine (H0.out _).mono ?_; rintro e w' ⟨rfl, rfl⟩)
  go_at_call 6
  refine (P1.out _ HB.out (Nat.le_refl _) HE.out).mono ?_
  rintro e w1 ⟨rfl, hb1⟩
  have hbx := (Below.refl _ w1).alloc (Nat.le_refl _) (.cells (pkt 17 s d sp dp 0 0) 26)
  have HX1 := Lib.hid (Pk.box w1 0 0 0 0 0 0 0)
  have HP1 := Lib.hid (Pk.box w1 17 s d sp dp 0 0)
  have HE1 := Lib.hid ((HE.out.below hb1 (Nat.le_refl _)).below hbx (Nat.le_refl _))
  have HB1 := Lib.hid (hb1.trans (hbx.mono hb1.size))
  clear hb1 hbx HE
  obtain ⟨x0, x1, x2, x3, x4, x5, x6⟩ := HX1.out.cells
  obtain ⟨g0, g1, g2, g3, g4, g5, g6⟩ := HX1.out.frozen
  obtain ⟨y0, y1, y2, y3, y4, y5, y6⟩ := HP1.out.cells
  go_wp2_with fail
  go_at_call 9
  refine (awake_any _ HE1.out).mono ?_
  rintro e w3 ⟨rfl, hb3⟩
  have HP3 := Lib.hid (HP1.out.next hb3)
  have HB3 := Lib.hid (HB1.out.trans (hb3.mono HB1.out.size))
  clear hb3 HP1 HE1 HB1 HX1 x0 x1 x2 x3 x4 x5 x6 g0 g1 g2 g3 g4 g5 g6 y0 y1 y2 y3 y4 y5 y6
  obtain ⟨x0, x1, x2, x3, x4, x5, x6⟩ := HP3.out.cells
  go_wp2_with fail
  go_ret
  exact ⟨rfl, HB3.out⟩

set_option maxHeartbeats 2000000 in
theorem wireSane_icmp (A : Option Addr) (n c m : Nat) (bs : List UInt8) (W : World) (hmc : m ≤ c) (hm : c ≤ 9223372036854775807)
    (hsh : ∀ W, Calls Tryd.prog 7 #[.slice A n c] W fun e w' => e = .returned (.slice A m c) ∧ W = w') (hb : Bts W W.heap.size A m bs) (he : Tc.Env W) (h0 : errW bs = 0) (h9 : byt bs 9 = 1) :
    Calls Tryd.prog 4 #[.slice A n c] W fun e w' => e = .returned (.bool true) ∧ Below W.heap.size W w' := by
  have H0 := Lib.hid hsh
  have HB := Lib.hid hb
  have HE := Lib.hid he
  have P1 := Lib.hid (fun W' (hb : Bts W' W.heap.size A m bs) h he => parse_any A m c bs W.heap.size W' hb h hmc hm he)
  obtain ⟨s, d, sp, k, hV, hk⟩ := sane_icmp h0 h9
  rw [hV] at P1
  have HK := Lib.hid hk
  clear hk
  clear hsh hb he hV h0
  go_enter Tryd.func4, Tryd.ntmps4
  go_wp2_with (go_at_call 7; refine (H0.out _).mono ?_; rintro e w' ⟨rfl, rfl⟩)
  go_at_call 6
  refine (P1.out _ HB.out (Nat.le_refl _) HE.out).mono ?_
  rintro e w1 ⟨rfl, hb1⟩
  have hbx := (Below.refl _ w1).alloc (Nat.le_refl _) (.cells (pkt 1 s d sp sp 0 k) 26)
  have HX1 := Lib.hid (Pk.box w1 0 0 0 0 0 0 0)
  have HP1 := Lib.hid (Pk.box w1 1 s d sp sp 0 k)
  have HE1 := Lib.hid ((HE.out.below hb1 (Nat.le_refl _)).below hbx (Nat.le_refl _))
  have HB1 := Lib.hid (hb1.trans (hbx.mono hb1.size))
  clear hb1 hbx HE
  obtain ⟨x0, x1, x2, x3, x4, x5, x6⟩ := HX1.out.cells
  obtain ⟨g0, g1, g2, g3, g4, g5, g6⟩ := HX1.out.frozen
  obtain ⟨y0, y1, y2, y3, y4, y5, y6⟩ := HP1.out.cells
  go_wp2_with fail
  go_at_call 9
  refine (awake_any _ HE1.out).mono ?_
  rintro e w3 ⟨rfl, hb3⟩
  have HP3 := Lib.hid (HP1.out.next hb3)
  have HB3 := Lib.hid (HB1.out.trans (hb3.mono HB1.out.size))
  clear hb3 HP1 HE1 HB1 HX1 x0 x1 x2 x3 x4 x5 x6 g0 g1 g2 g3 g4 g5 g6 y0 y1 y2 y3 y4 y5 y6
  obtain ⟨x0, x1, x2, x3, x4, x5, x6⟩ := HP3.out.cells
  rcases HK.out with h8 | h8
  · have d8 : ((k : Int) == 8) = true := by simp; omega
    clear HK h8
    go_wp2_with fail
    go_ret
    exact ⟨rfl, HB3.out⟩
  have d8 : ((k : Int) == 8) = false := by simp; omega
  have d0 : ((k : Int) == 0) = true := by simp; omega
  clear HK h8
  go_wp2_with fail
  go_ret
  exact ⟨rfl, HB3.out⟩

theorem wireSane_walk (a0 : Option Addr) (n0 c0 : Nat) (b0 : List UInt8) (w : World) (he : Tc.Env w) (w0 : Bts w w.heap.size a0 n0 b0) (hc0 : n0 ≤ c0) (hm0 : c0 ≤ maxLen) :
    Calls Tryd.prog 4 #[.slice a0 n0 c0] w fun e w' => e = .returned (.bool true) ∧ Below w.heap.size w w' := by
  unfold maxLen at hm0
  have hb := w0.take 1600
  have C0 := fun W => short_any a0 n0 c0 hc0 (by omega) W
  by_cases h : errW (b0.take 1600) = 0
  · rcases (WirM.errW_zero h).2 with h9 | h9 | h9
    · exact wireSane_tcp a0 n0 c0 _ _ w (by omega) (by omega) C0 hb he h h9
    · exact wireSane_udp a0 n0 c0 _ _ w (by omega) (by omega) C0 hb he h h9
    · exact wireSane_icmp a0 n0 c0 _ _ w (by omega) (by omega) C0 hb he h h9
  · exact wireSane_bad a0 n0 c0 _ _ w (by omega) (by omega) C0 hb he h

end Wi
end Go.Proofs.YtjbdjplliieelaaDoor
