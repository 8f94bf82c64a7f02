/- Layer 9: the walk of PackBack. Written by mkPacR.py. -/
import Derived.Test.YtapcjjhbdhkhhaaDoorPacP
set_option linter.unusedVariables false
set_option linter.unusedSimpArgs false
namespace Go.Proofs.YtapcjjhbdhkhhaaDoor
open Go.ChangeShapes Go.WideShapes Go.ChangeAt Go.RowKit Go.Mtl
namespace Pa
open PacM (goodB inner whole mx errP out)
open IpM (four four_lt)
open WirM (errW spN dpN flN kdN)
open Wi (Pk pkt wV)
open Ip (ret_int Row)

/-- What wire.Parse hands back of right bytes is a packet that may be. -/
theorem parsed_is {bs : List UInt8} (h : errW bs = 0) : ∃ (pr sr ds sp dp f kd : Nat), wV bs = okP pr sr ds sp dp f kd ∧ goodB pr sp dp f kd = true ∧
    pr < 256 ∧ sr < 4294967296 ∧ ds < 4294967296 ∧ sp < 65536 ∧ dp < 65536 ∧ f < 256 ∧ kd < 256 :=
  ⟨byt bs 9, four bs 12, four bs 16, spN bs, dpN bs, flN bs, kdN bs, Wi.wV_ok h, PacM.good_of_parsed h, byt_lt _ _, four_lt _ _, four_lt _ _, WirM.spN_lt _, WirM.dpN_lt _, Nat.lt_of_lt_of_le (WirM.flN_lt bs) (by omega), WirM.kdN_lt _⟩

set_option maxHeartbeats 4000000 in
theorem packBack_ok_ok (pr sr ds sp dp f kd : Nat) (A : Option Addr) (n c m : Nat) (bs : List UInt8) (A0 : Option Addr) (n0 c0 m0 : Nat) (cs : List UInt8) (W : World) (hmc : m ≤ c) (hm : c ≤ 9223372036854775807) (hmc0 : m0 ≤ c0) (hm0 : c0 ≤ 9223372036854775807) (hnc : n ≤ c)
    (hpr : pr < 256) (hsr : sr < 4294967296) (hds : ds < 4294967296) (hsp : sp < 65536) (hdp : dp < 65536) (hf : f < 256) (hk : kd < 256)
    (hsh : ∀ W, Calls Tryd.prog 7 #[.slice A n c] W fun e w' => e = .returned (.slice A m c) ∧ W = w')
    (hsh0 : ∀ W, Calls Tryd.prog 7 #[.slice A0 n0 c0] W fun e w' => e = .returned (.slice A0 m0 c0) ∧ W = w') (hb : Bts W W.heap.size A m bs) (hy : Bts W W.heap.size A0 m0 cs) (he : Tc.Env W)
    (h0 : errP pr sp dp f kd m = 0) (hw : errW cs = 0) :
    Calls Tryd.prog 4 #[.agg (pkt pr sr ds sp dp f kd), .slice A n c, .slice A0 n0 c0] W fun e w' => e = .returned (.bool true) ∧ Below W.heap.size W w' := by
  obtain ⟨l, hl⟩ : ∃ l, out pr sr ds sp dp f kd bs = l := ⟨_, rfl⟩
  obtain ⟨N, hN⟩ : ∃ N, l.length = N := ⟨_, rfl⟩
  have hN1 : N ≤ 1500 := by rw [← hN, ← hl]; exact PacM.out_len _ _ _ _ _ _ _ _
  have hbl := hb.len
  have er0 := h0
  have PA : Hid (∀ A c W (hb : Bts W W.heap.size A N l) (hc : N ≤ c ∧ c ≤ 9223372036854775807) (he : Tc.Env W), Calls Tryd.prog 12 #[.slice A N c] W fun e w' => e = .returned (okP pr sr ds sp dp f kd) ∧ Below W.heap.size W w') := by
    intro A c W hb hc he
    have h := Wi.parse_any A N c l W.heap.size W hb (Nat.le_refl _) hc.1 hc.2 he
    have hl2 : l = whole pr sr ds sp dp f kd bs := by rw [← hl]; exact PacM.out_ok (by rw [hbl]; exact h0)
    have hv := wV_whole (x := bs) (by rw [hbl]; exact h0) hpr hsr hds hsp hdp hk
    rw [← hl2] at hv
    rw [hv] at h
    exact h
  have P1 := Lib.hid (fun W' (hb : Bts W' W.heap.size A m bs) hB he => build_any pr sr ds sp dp f kd A m c bs W.heap.size W' hb hB he hmc hm hpr hsr hds hsp hdp hf hk 0 N l er0 hl hN)
  have P2 := Lib.hid (fun W' (hb : Bts W' W.heap.size A0 m0 cs) h he => Wi.parse_any A0 m0 c0 cs W.heap.size W' hb h hmc0 hm0 he)
  obtain ⟨pr2, sr2, ds2, sp2, dp2, f2, k2, hV, g2, b1, b2, b3, b4, b5, b6, b7⟩ := parsed_is hw
  rw [hV] at P2
  obtain ⟨N2, hN2⟩ : ∃ N2, (whole pr2 sr2 ds2 sp2 dp2 f2 k2 []).length = N2 := ⟨_, rfl⟩
  have er2 : errP pr2 sp2 dp2 f2 k2 0 = 0 := PacM.errP_ok g2 (Nat.zero_le _)
  have P3 := Lib.hid (fun W' he => build_any pr2 sr2 ds2 sp2 dp2 f2 k2 none 0 0 [] W'.heap.size W' (Bts.empty _ _ _) (Nat.le_refl _) he (Nat.le_refl _) (by omega) b1 b2 b3 b4 b5 b6 b7 0 N2 _ er2 (PacM.out_ok er2) hN2)
  have P4 : Hid (∀ A c W (hb : Bts W W.heap.size A N2 (whole pr2 sr2 ds2 sp2 dp2 f2 k2 [])) (hc : N2 ≤ c ∧ c ≤ 9223372036854775807) (he : Tc.Env W), Calls Tryd.prog 12 #[.slice A N2 c] W fun e w' => e = .returned (okP pr2 sr2 ds2 sp2 dp2 f2 k2) ∧ Below W.heap.size W w') := by
    intro A c W hb hc he
    have h := Wi.parse_any A N2 c _ W.heap.size W hb (Nat.le_refl _) hc.1 hc.2 he
    rw [wV_whole (x := []) er2 b1 b2 b3 b4 b5 b7] at h
    exact h
  generalize whole pr2 sr2 ds2 sp2 dp2 f2 k2 [] = l2 at P3 P4
  clear hV g2 er2 hN2
  have H0 := Lib.hid hsh
  have H1 := Lib.hid hsh0
  have HY := Lib.hid hy
  have HX := Lib.hid (Pk.box W pr sr ds sp dp f kd)
  have HE := Lib.hid (he.alloc (.cells (pkt pr sr ds sp dp f kd) 25))
  have HT := Lib.hid (hb.alloc (Nat.le_refl _) (.cells (pkt pr sr ds sp dp f kd) 25))
  have HB := Lib.hid ((Below.refl _ W).alloc (Nat.le_refl _) (.cells (pkt pr sr ds sp dp f kd) 25))
  clear hsh hsh0 hb hy he hl hN hbl er0 h0 hw 
  go_enter Tryd.func4, Tryd.ntmps4
  go_wp2_with fail
  obtain ⟨U, hU⟩ : ∃ U, W.alloc (.cells (pkt pr sr ds sp dp f kd) 25) = U := ⟨_, rfl⟩
  rw [hU] at HX HE HT HB ⊢
  clear hU
  have HS0 := Lib.hid (SP.start HX.out)
  obtain ⟨s0, s1, s2, s3, s4, s5, s6, HSh⟩ := HS0.out
  go_region_held3 (fun w' => w'.cell? ⟨W.heap.size, 0, none⟩ = some (.int .u8 pr) ∧ w'.cell? ⟨W.heap.size, 1, none⟩ = some (.int .u32 sr) ∧ w'.cell? ⟨W.heap.size, 2, none⟩ = some (.int .u32 ds) ∧ w'.cell? ⟨W.heap.size, 3, none⟩ = some (.int .u16 sp) ∧
    w'.cell? ⟨W.heap.size, 4, none⟩ = some (.int .u16 dp) ∧ w'.cell? ⟨W.heap.size, 5, none⟩ = some (.int .u8 f) ∧ w'.cell? ⟨W.heap.size, 6, none⟩ = some (.int .u8 kd) ∧ Hid (Pk w' W.heap.size pr sr ds sp dp f kd ∧ Below U.heap.size U w'))
    (first | exact SP.drew HS0.out | exact SP.next (by assumption) (by assumption) | go_keep)
    (first
      | (go_at_call 7; refine (H0.out _).mono ?_; rintro e w' ⟨rfl, rfl⟩)
      | (go_at_call 6; refine (P1.out _ (HT.out.below ((SP.bel (by assumption)).mono HB.out.size)) (Nat.le_trans HB.out.size (SP.bel (by assumption)).size) (HE.out.below (SP.bel (by assumption)) (Nat.le_refl _))).mono ?_; rintro e w1 ⟨A1, c1, rfl, HT1, HC1, hb1⟩))
  have HS1 : Hid (SP U w1 W.heap.size pr sr ds sp dp f kd) := by assumption
  clear s0 s1 s2 s3 s4 s5 s6 HSh hb1
  have HX1 := Lib.hid HS1.out.pk
  have HE1 := Lib.hid (HE.out.below HS1.out.bel (Nat.le_refl _))
  have HB1 := Lib.hid (HB.out.trans (HS1.out.bel.mono HB.out.size))
  clear HX HE HB HT HS0 HS1
  go_wp2_with fail
  go_at_call 12
  refine (PA.out A1 c1 _ HT1.out HC1.out HE1.out).mono ?_
  rintro e w2 ⟨rfl, hb2⟩
  have hbx := (Below.refl _ w2).alloc (Nat.le_refl _) (.cells (pkt pr sr ds sp dp f kd) 25)
  have HZ2 := Lib.hid (Pk.box w2 0 0 0 0 0 0 0)
  have HQ2 := Lib.hid (Pk.box w2 pr sr ds sp dp f kd)
  have HX2 := Lib.hid ((HX1.out.next hb2).next hbx)
  have HE3 := Lib.hid ((HE1.out.below hb2 (Nat.le_refl _)).below hbx (Nat.le_refl _))
  have hb12 := HB1.out.trans (hb2.mono HB1.out.size)
  have HB3 := Lib.hid (hb12.trans (hbx.mono hb12.size))
  clear hb2 hbx hb12 HX1 HE1 HB1 HT1 HC1 P1 PA
  obtain ⟨x0, x1, x2, x3, x4, x5, x6⟩ := HZ2.out.cells
  obtain ⟨g0, g1, g2, g3, g4, g5, g6⟩ := HZ2.out.frozen
  obtain ⟨y0, y1, y2, y3, y4, y5, y6⟩ := HQ2.out.cells
  obtain ⟨z0, z1, z2, z3, z4, z5, z6⟩ := HX2.out.cells
  go_wp2_with (go_at_call 7; refine (H1.out _).mono ?_; rintro e w' ⟨rfl, rfl⟩)
  clear x0 x1 x2 x3 x4 x5 x6 g0 g1 g2 g3 g4 g5 g6 y0 y1 y2 y3 y4 y5 y6 z0 z1 z2 z3 z4 z5 z6 HZ2 HQ2 HX2
  go_at_call 12
  refine (P2.out _ (HY.out.below HB3.out) HB3.out.size HE3.out).mono ?_
  rintro e w4 ⟨rfl, hb4⟩
  have hbx := (Below.refl _ w4).alloc (Nat.le_refl _) (.cells (pkt pr2 sr2 ds2 sp2 dp2 f2 k2) 25)
  have HZ4 := Lib.hid (Pk.box w4 0 0 0 0 0 0 0)
  have HQ4 := Lib.hid (Pk.box w4 pr2 sr2 ds2 sp2 dp2 f2 k2)
  have HE4 := Lib.hid ((HE3.out.below hb4 (Nat.le_refl _)).below hbx (Nat.le_refl _))
  have hb34 := HB3.out.trans (hb4.mono HB3.out.size)
  have HB4 := Lib.hid (hb34.trans (hbx.mono hb34.size))
  clear hb4 hbx hb34 HE3 HB3 HY P2
  obtain ⟨x0, x1, x2, x3, x4, x5, x6⟩ := HZ4.out.cells
  obtain ⟨g0, g1, g2, g3, g4, g5, g6⟩ := HZ4.out.frozen
  obtain ⟨y0, y1, y2, y3, y4, y5, y6⟩ := HQ4.out.cells
  go_wp2_with fail
  go_at_call 6
  refine (P3.out _ HE4.out).mono ?_
  rintro e w5 ⟨A5, c5, rfl, HT5, HC5, hb5⟩
  have HQ5 := Lib.hid (HQ4.out.next hb5.out)
  have HE5 := Lib.hid (HE4.out.below hb5.out (Nat.le_refl _))
  have HB5 := Lib.hid (HB4.out.trans (hb5.out.mono HB4.out.size))
  clear x0 x1 x2 x3 x4 x5 x6 g0 g1 g2 g3 g4 g5 g6 y0 y1 y2 y3 y4 y5 y6 HZ4 HQ4 HE4 HB4 hb5 P3
  go_wp2_with fail
  go_at_call 12
  refine (P4.out A5 c5 _ HT5.out HC5.out HE5.out).mono ?_
  rintro e w6 ⟨rfl, hb6⟩
  have hbx := (Below.refl _ w6).alloc (Nat.le_refl _) (.cells (pkt pr2 sr2 ds2 sp2 dp2 f2 k2) 25)
  have HZ6 := Lib.hid (Pk.box w6 0 0 0 0 0 0 0)
  have HR6 := Lib.hid (Pk.box w6 pr2 sr2 ds2 sp2 dp2 f2 k2)
  have HQ6 := Lib.hid ((HQ5.out.next hb6).next hbx)
  have HE6 := Lib.hid ((HE5.out.below hb6 (Nat.le_refl _)).below hbx (Nat.le_refl _))
  have hb56 := HB5.out.trans (hb6.mono HB5.out.size)
  have HB6 := Lib.hid (hb56.trans (hbx.mono hb56.size))
  clear hb6 hbx hb56 HE5 HB5 HQ5 HT5 HC5 P4
  obtain ⟨x0, x1, x2, x3, x4, x5, x6⟩ := HZ6.out.cells
  obtain ⟨g0, g1, g2, g3, g4, g5, g6⟩ := HZ6.out.frozen
  go_wp2_with fail
  go_at_call 9
  refine (awake_any _ HE6.out).mono ?_
  rintro e w7 ⟨rfl, hb7⟩
  have HR7 := Lib.hid (HR6.out.next hb7)
  have HQ7 := Lib.hid (HQ6.out.next hb7)
  have HB7 := Lib.hid (HB6.out.trans (hb7.mono HB6.out.size))
  clear hb7 HR6 HQ6 HE6 HB6 HZ6 x0 x1 x2 x3 x4 x5 x6 g0 g1 g2 g3 g4 g5 g6
  obtain ⟨x0, x1, x2, x3, x4, x5, x6⟩ := HR7.out.cells
  obtain ⟨y0, y1, y2, y3, y4, y5, y6⟩ := HQ7.out.cells
  go_wp2_with fail
  go_ret
  exact ⟨rfl, HB7.out⟩

set_option maxHeartbeats 4000000 in
theorem packBack_ok_bad (pr sr ds sp dp f kd : Nat) (A : Option Addr) (n c m : Nat) (bs : List UInt8) (A0 : Option Addr) (n0 c0 m0 : Nat) (cs : List UInt8) (W : World) (hmc : m ≤ c) (hm : c ≤ 9223372036854775807) (hmc0 : m0 ≤ c0) (hm0 : c0 ≤ 9223372036854775807) (hnc : n ≤ c)
    (hpr : pr < 256) (hsr : sr < 4294967296) (hds : ds < 4294967296) (hsp : sp < 65536) (hdp : dp < 65536) (hf : f < 256) (hk : kd < 256)
    (hsh : ∀ W, Calls Tryd.prog 7 #[.slice A n c] W fun e w' => e = .returned (.slice A m c) ∧ W = w')
    (hsh0 : ∀ W, Calls Tryd.prog 7 #[.slice A0 n0 c0] W fun e w' => e = .returned (.slice A0 m0 c0) ∧ W = w') (hb : Bts W W.heap.size A m bs) (hy : Bts W W.heap.size A0 m0 cs) (he : Tc.Env W)
    (h0 : errP pr sp dp f kd m = 0) (hw : errW cs ≠ 0) :
    Calls Tryd.prog 4 #[.agg (pkt pr sr ds sp dp f kd), .slice A n c, .slice A0 n0 c0] W fun e w' => e = .returned (.bool true) ∧ Below W.heap.size W w' := by
  obtain ⟨l, hl⟩ : ∃ l, out pr sr ds sp dp f kd bs = l := ⟨_, rfl⟩
  obtain ⟨N, hN⟩ : ∃ N, l.length = N := ⟨_, rfl⟩
  have hN1 : N ≤ 1500 := by rw [← hN, ← hl]; exact PacM.out_len _ _ _ _ _ _ _ _
  have hbl := hb.len
  have er0 := h0
  have PA : Hid (∀ A c W (hb : Bts W W.heap.size A N l) (hc : N ≤ c ∧ c ≤ 9223372036854775807) (he : Tc.Env W), Calls Tryd.prog 12 #[.slice A N c] W fun e w' => e = .returned (okP pr sr ds sp dp f kd) ∧ Below W.heap.size W w') := by
    intro A c W hb hc he
    have h := Wi.parse_any A N c l W.heap.size W hb (Nat.le_refl _) hc.1 hc.2 he
    have hl2 : l = whole pr sr ds sp dp f kd bs := by rw [← hl]; exact PacM.out_ok (by rw [hbl]; exact h0)
    have hv := wV_whole (x := bs) (by rw [hbl]; exact h0) hpr hsr hds hsp hdp hk
    rw [← hl2] at hv
    rw [hv] at h
    exact h
  have P1 := Lib.hid (fun W' (hb : Bts W' W.heap.size A m bs) hB he => build_any pr sr ds sp dp f kd A m c bs W.heap.size W' hb hB he hmc hm hpr hsr hds hsp hdp hf hk 0 N l er0 hl hN)
  have P2 := Lib.hid (fun W' (hb : Bts W' W.heap.size A0 m0 cs) h he => Wi.parse_any A0 m0 c0 cs W.heap.size W' hb h hmc0 hm0 he)
  rw [Wi.wV_bad hw] at P2
  have dw : ((errW cs : Int) != 0) = true := by simp; omega
  generalize errW cs = ew at P2 dw
  have H0 := Lib.hid hsh
  have H1 := Lib.hid hsh0
  have HY := Lib.hid hy
  have HX := Lib.hid (Pk.box W pr sr ds sp dp f kd)
  have HE := Lib.hid (he.alloc (.cells (pkt pr sr ds sp dp f kd) 25))
  have HT := Lib.hid (hb.alloc (Nat.le_refl _) (.cells (pkt pr sr ds sp dp f kd) 25))
  have HB := Lib.hid ((Below.refl _ W).alloc (Nat.le_refl _) (.cells (pkt pr sr ds sp dp f kd) 25))
  clear hsh hsh0 hb hy he hl hN hbl er0 h0 hw 
  go_enter Tryd.func4, Tryd.ntmps4
  go_wp2_with fail
  obtain ⟨U, hU⟩ : ∃ U, W.alloc (.cells (pkt pr sr ds sp dp f kd) 25) = U := ⟨_, rfl⟩
  rw [hU] at HX HE HT HB ⊢
  clear hU
  have HS0 := Lib.hid (SP.start HX.out)
  obtain ⟨s0, s1, s2, s3, s4, s5, s6, HSh⟩ := HS0.out
  go_region_held3 (fun w' => w'.cell? ⟨W.heap.size, 0, none⟩ = some (.int .u8 pr) ∧ w'.cell? ⟨W.heap.size, 1, none⟩ = some (.int .u32 sr) ∧ w'.cell? ⟨W.heap.size, 2, none⟩ = some (.int .u32 ds) ∧ w'.cell? ⟨W.heap.size, 3, none⟩ = some (.int .u16 sp) ∧
    w'.cell? ⟨W.heap.size, 4, none⟩ = some (.int .u16 dp) ∧ w'.cell? ⟨W.heap.size, 5, none⟩ = some (.int .u8 f) ∧ w'.cell? ⟨W.heap.size, 6, none⟩ = some (.int .u8 kd) ∧ Hid (Pk w' W.heap.size pr sr ds sp dp f kd ∧ Below U.heap.size U w'))
    (first | exact SP.drew HS0.out | exact SP.next (by assumption) (by assumption) | go_keep)
    (first
      | (go_at_call 7; refine (H0.out _).mono ?_; rintro e w' ⟨rfl, rfl⟩)
      | (go_at_call 6; refine (P1.out _ (HT.out.below ((SP.bel (by assumption)).mono HB.out.size)) (Nat.le_trans HB.out.size (SP.bel (by assumption)).size) (HE.out.below (SP.bel (by assumption)) (Nat.le_refl _))).mono ?_; rintro e w1 ⟨A1, c1, rfl, HT1, HC1, hb1⟩))
  have HS1 : Hid (SP U w1 W.heap.size pr sr ds sp dp f kd) := by assumption
  clear s0 s1 s2 s3 s4 s5 s6 HSh hb1
  have HX1 := Lib.hid HS1.out.pk
  have HE1 := Lib.hid (HE.out.below HS1.out.bel (Nat.le_refl _))
  have HB1 := Lib.hid (HB.out.trans (HS1.out.bel.mono HB.out.size))
  clear HX HE HB HT HS0 HS1
  go_wp2_with fail
  go_at_call 12
  refine (PA.out A1 c1 _ HT1.out HC1.out HE1.out).mono ?_
  rintro e w2 ⟨rfl, hb2⟩
  have hbx := (Below.refl _ w2).alloc (Nat.le_refl _) (.cells (pkt pr sr ds sp dp f kd) 25)
  have HZ2 := Lib.hid (Pk.box w2 0 0 0 0 0 0 0)
  have HQ2 := Lib.hid (Pk.box w2 pr sr ds sp dp f kd)
  have HX2 := Lib.hid ((HX1.out.next hb2).next hbx)
  have HE3 := Lib.hid ((HE1.out.below hb2 (Nat.le_refl _)).below hbx (Nat.le_refl _))
  have hb12 := HB1.out.trans (hb2.mono HB1.out.size)
  have HB3 := Lib.hid (hb12.trans (hbx.mono hb12.size))
  clear hb2 hbx hb12 HX1 HE1 HB1 HT1 HC1 P1 PA
  obtain ⟨x0, x1, x2, x3, x4, x5, x6⟩ := HZ2.out.cells
  obtain ⟨g0, g1, g2, g3, g4, g5, g6⟩ := HZ2.out.frozen
  obtain ⟨y0, y1, y2, y3, y4, y5, y6⟩ := HQ2.out.cells
  obtain ⟨z0, z1, z2, z3, z4, z5, z6⟩ := HX2.out.cells
  go_wp2_with (go_at_call 7; refine (H1.out _).mono ?_; rintro e w' ⟨rfl, rfl⟩)
  clear x0 x1 x2 x3 x4 x5 x6 g0 g1 g2 g3 g4 g5 g6 y0 y1 y2 y3 y4 y5 y6 z0 z1 z2 z3 z4 z5 z6 HZ2 HQ2 HX2
  go_at_call 12
  refine (P2.out _ (HY.out.below HB3.out) HB3.out.size HE3.out).mono ?_
  rintro e w4 ⟨rfl, hb4⟩
  have hbx := (Below.refl _ w4).alloc (Nat.le_refl _) (.cells (pkt 0 0 0 0 0 0 0) 25)
  have HZ4 := Lib.hid (Pk.box w4 0 0 0 0 0 0 0)
  have HQ4 := Lib.hid (Pk.box w4 0 0 0 0 0 0 0)
  have HE4 := Lib.hid ((HE3.out.below hb4 (Nat.le_refl _)).below hbx (Nat.le_refl _))
  have hb34 := HB3.out.trans (hb4.mono HB3.out.size)
  have HB4 := Lib.hid (hb34.trans (hbx.mono hb34.size))
  clear hb4 hbx hb34 HE3 HB3 HY P2
  obtain ⟨x0, x1, x2, x3, x4, x5, x6⟩ := HZ4.out.cells
  obtain ⟨g0, g1, g2, g3, g4, g5, g6⟩ := HZ4.out.frozen
  go_wp2_with fail
  go_at_call 9
  refine (awake_any _ HE4.out).mono ?_
  rintro e w5 ⟨rfl, hb5⟩
  have HB5 := Lib.hid (HB4.out.trans (hb5.mono HB4.out.size))
  clear hb5 x0 x1 x2 x3 x4 x5 x6 g0 g1 g2 g3 g4 g5 g6 HE4 HB4 HQ4 HZ4
  go_wp2_with fail
  go_ret
  exact ⟨rfl, HB5.out⟩

set_option maxHeartbeats 4000000 in
theorem packBack_bad_ok (pr sr ds sp dp f kd : Nat) (A : Option Addr) (n c m : Nat) (bs : List UInt8) (A0 : Option Addr) (n0 c0 m0 : Nat) (cs : List UInt8) (W : World) (hmc : m ≤ c) (hm : c ≤ 9223372036854775807) (hmc0 : m0 ≤ c0) (hm0 : c0 ≤ 9223372036854775807) (hnc : n ≤ c)
    (hpr : pr < 256) (hsr : sr < 4294967296) (hds : ds < 4294967296) (hsp : sp < 65536) (hdp : dp < 65536) (hf : f < 256) (hk : kd < 256)
    (hsh : ∀ W, Calls Tryd.prog 7 #[.slice A n c] W fun e w' => e = .returned (.slice A m c) ∧ W = w')
    (hsh0 : ∀ W, Calls Tryd.prog 7 #[.slice A0 n0 c0] W fun e w' => e = .returned (.slice A0 m0 c0) ∧ W = w') (hb : Bts W W.heap.size A m bs) (hy : Bts W W.heap.size A0 m0 cs) (he : Tc.Env W)
    (h0 : goodB pr sp dp f kd = false) (hw : errW cs = 0) :
    Calls Tryd.prog 4 #[.agg (pkt pr sr ds sp dp f kd), .slice A n c, .slice A0 n0 c0] W fun e w' => e = .returned (.bool true) ∧ Below W.heap.size W w' := by
  obtain ⟨l, hl⟩ : ∃ l, out pr sr ds sp dp f kd bs = l := ⟨_, rfl⟩
  obtain ⟨N, hN⟩ : ∃ N, l.length = N := ⟨_, rfl⟩
  have hN1 : N ≤ 1500 := by rw [← hN, ← hl]; exact PacM.out_len _ _ _ _ _ _ _ _
  have hbl := hb.len
  have er0 := PacM.errP_bad (n := m) h0
  have G1 := Lib.hid (fun W he => good_any pr sp dp f kd sr ds hf false h0 W he)
  have P1 := Lib.hid (fun W' (hb : Bts W' W.heap.size A m bs) hB he => build_any pr sr ds sp dp f kd A m c bs W.heap.size W' hb hB he hmc hm hpr hsr hds hsp hdp hf hk 1 N l er0 hl hN)
  have P2 := Lib.hid (fun W' (hb : Bts W' W.heap.size A0 m0 cs) h he => Wi.parse_any A0 m0 c0 cs W.heap.size W' hb h hmc0 hm0 he)
  obtain ⟨pr2, sr2, ds2, sp2, dp2, f2, k2, hV, g2, b1, b2, b3, b4, b5, b6, b7⟩ := parsed_is hw
  rw [hV] at P2
  obtain ⟨N2, hN2⟩ : ∃ N2, (whole pr2 sr2 ds2 sp2 dp2 f2 k2 []).length = N2 := ⟨_, rfl⟩
  have er2 : errP pr2 sp2 dp2 f2 k2 0 = 0 := PacM.errP_ok g2 (Nat.zero_le _)
  have P3 := Lib.hid (fun W' he => build_any pr2 sr2 ds2 sp2 dp2 f2 k2 none 0 0 [] W'.heap.size W' (Bts.empty _ _ _) (Nat.le_refl _) he (Nat.le_refl _) (by omega) b1 b2 b3 b4 b5 b6 b7 0 N2 _ er2 (PacM.out_ok er2) hN2)
  have P4 : Hid (∀ A c W (hb : Bts W W.heap.size A N2 (whole pr2 sr2 ds2 sp2 dp2 f2 k2 [])) (hc : N2 ≤ c ∧ c ≤ 9223372036854775807) (he : Tc.Env W), Calls Tryd.prog 12 #[.slice A N2 c] W fun e w' => e = .returned (okP pr2 sr2 ds2 sp2 dp2 f2 k2) ∧ Below W.heap.size W w') := by
    intro A c W hb hc he
    have h := Wi.parse_any A N2 c _ W.heap.size W hb (Nat.le_refl _) hc.1 hc.2 he
    rw [wV_whole (x := []) er2 b1 b2 b3 b4 b5 b7] at h
    exact h
  generalize whole pr2 sr2 ds2 sp2 dp2 f2 k2 [] = l2 at P3 P4
  clear hV g2 er2 hN2
  have H0 := Lib.hid hsh
  have H1 := Lib.hid hsh0
  have HY := Lib.hid hy
  have HX := Lib.hid (Pk.box W pr sr ds sp dp f kd)
  have HE := Lib.hid (he.alloc (.cells (pkt pr sr ds sp dp f kd) 25))
  have HT := Lib.hid (hb.alloc (Nat.le_refl _) (.cells (pkt pr sr ds sp dp f kd) 25))
  have HB := Lib.hid ((Below.refl _ W).alloc (Nat.le_refl _) (.cells (pkt pr sr ds sp dp f kd) 25))
  clear hsh hsh0 hb hy he hl hN hbl er0 h0 hw 
  go_enter Tryd.func4, Tryd.ntmps4
  go_wp2_with fail
  obtain ⟨U, hU⟩ : ∃ U, W.alloc (.cells (pkt pr sr ds sp dp f kd) 25) = U := ⟨_, rfl⟩
  rw [hU] at HX HE HT HB ⊢
  clear hU
  have HS0 := Lib.hid (SP.start HX.out)
  obtain ⟨s0, s1, s2, s3, s4, s5, s6, HSh⟩ := HS0.out
  go_region_held3 (fun w' => w'.cell? ⟨W.heap.size, 0, none⟩ = some (.int .u8 pr) ∧ w'.cell? ⟨W.heap.size, 1, none⟩ = some (.int .u32 sr) ∧ w'.cell? ⟨W.heap.size, 2, none⟩ = some (.int .u32 ds) ∧ w'.cell? ⟨W.heap.size, 3, none⟩ = some (.int .u16 sp) ∧
    w'.cell? ⟨W.heap.size, 4, none⟩ = some (.int .u16 dp) ∧ w'.cell? ⟨W.heap.size, 5, none⟩ = some (.int .u8 f) ∧ w'.cell? ⟨W.heap.size, 6, none⟩ = some (.int .u8 kd) ∧ Hid (Pk w' W.heap.size pr sr ds sp dp f kd ∧ Below U.heap.size U w'))
    (first | exact SP.drew HS0.out | exact SP.next (by assumption) (by assumption) | go_keep)
    (first
      | (go_at_call 7; refine (H0.out _).mono ?_; rintro e w' ⟨rfl, rfl⟩)
      | (go_at_call 6; refine (P1.out _ (HT.out.below ((SP.bel (by assumption)).mono HB.out.size)) (Nat.le_trans HB.out.size (SP.bel (by assumption)).size) (HE.out.below (SP.bel (by assumption)) (Nat.le_refl _))).mono ?_; rintro e w1 ⟨A1, c1, rfl, HT1, HC1, hb1⟩))
  have HS1 : Hid (SP U w1 W.heap.size pr sr ds sp dp f kd) := by assumption
  clear s0 s1 s2 s3 s4 s5 s6 HSh hb1
  have HX1 := Lib.hid HS1.out.pk
  have HE1 := Lib.hid (HE.out.below HS1.out.bel (Nat.le_refl _))
  have HB1 := Lib.hid (HB.out.trans (HS1.out.bel.mono HB.out.size))
  clear HX HE HB HT HS0 HS1
  obtain ⟨x0, x1, x2, x3, x4, x5, x6⟩ := HX1.out.cells
  go_wp2_with fail
  go_at_call 10
  refine (G1.out _ HE1.out).mono ?_
  rintro e w2 ⟨rfl, hb2⟩
  have HE3 := Lib.hid (HE1.out.below hb2 (Nat.le_refl _))
  have HB3 := Lib.hid (HB1.out.trans (hb2.mono HB1.out.size))
  clear hb2 HX1 HE1 HB1 HT1 HC1 P1 x0 x1 x2 x3 x4 x5 x6
  go_wp2_with (go_at_call 7; refine (H1.out _).mono ?_; rintro e w' ⟨rfl, rfl⟩)
  go_at_call 12
  refine (P2.out _ (HY.out.below HB3.out) HB3.out.size HE3.out).mono ?_
  rintro e w4 ⟨rfl, hb4⟩
  have hbx := (Below.refl _ w4).alloc (Nat.le_refl _) (.cells (pkt pr2 sr2 ds2 sp2 dp2 f2 k2) 25)
  have HZ4 := Lib.hid (Pk.box w4 0 0 0 0 0 0 0)
  have HQ4 := Lib.hid (Pk.box w4 pr2 sr2 ds2 sp2 dp2 f2 k2)
  have HE4 := Lib.hid ((HE3.out.below hb4 (Nat.le_refl _)).below hbx (Nat.le_refl _))
  have hb34 := HB3.out.trans (hb4.mono HB3.out.size)
  have HB4 := Lib.hid (hb34.trans (hbx.mono hb34.size))
  clear hb4 hbx hb34 HE3 HB3 HY P2
  obtain ⟨x0, x1, x2, x3, x4, x5, x6⟩ := HZ4.out.cells
  obtain ⟨g0, g1, g2, g3, g4, g5, g6⟩ := HZ4.out.frozen
  obtain ⟨y0, y1, y2, y3, y4, y5, y6⟩ := HQ4.out.cells
  go_wp2_with fail
  go_at_call 6
  refine (P3.out _ HE4.out).mono ?_
  rintro e w5 ⟨A5, c5, rfl, HT5, HC5, hb5⟩
  have HQ5 := Lib.hid (HQ4.out.next hb5.out)
  have HE5 := Lib.hid (HE4.out.below hb5.out (Nat.le_refl _))
  have HB5 := Lib.hid (HB4.out.trans (hb5.out.mono HB4.out.size))
  clear x0 x1 x2 x3 x4 x5 x6 g0 g1 g2 g3 g4 g5 g6 y0 y1 y2 y3 y4 y5 y6 HZ4 HQ4 HE4 HB4 hb5 P3
  go_wp2_with fail
  go_at_call 12
  refine (P4.out A5 c5 _ HT5.out HC5.out HE5.out).mono ?_
  rintro e w6 ⟨rfl, hb6⟩
  have hbx := (Below.refl _ w6).alloc (Nat.le_refl _) (.cells (pkt pr2 sr2 ds2 sp2 dp2 f2 k2) 25)
  have HZ6 := Lib.hid (Pk.box w6 0 0 0 0 0 0 0)
  have HR6 := Lib.hid (Pk.box w6 pr2 sr2 ds2 sp2 dp2 f2 k2)
  have HQ6 := Lib.hid ((HQ5.out.next hb6).next hbx)
  have HE6 := Lib.hid ((HE5.out.below hb6 (Nat.le_refl _)).below hbx (Nat.le_refl _))
  have hb56 := HB5.out.trans (hb6.mono HB5.out.size)
  have HB6 := Lib.hid (hb56.trans (hbx.mono hb56.size))
  clear hb6 hbx hb56 HE5 HB5 HQ5 HT5 HC5 P4
  obtain ⟨x0, x1, x2, x3, x4, x5, x6⟩ := HZ6.out.cells
  obtain ⟨g0, g1, g2, g3, g4, g5, g6⟩ := HZ6.out.frozen
  go_wp2_with fail
  go_at_call 9
  refine (awake_any _ HE6.out).mono ?_
  rintro e w7 ⟨rfl, hb7⟩
  have HR7 := Lib.hid (HR6.out.next hb7)
  have HQ7 := Lib.hid (HQ6.out.next hb7)
  have HB7 := Lib.hid (HB6.out.trans (hb7.mono HB6.out.size))
  clear hb7 HR6 HQ6 HE6 HB6 HZ6 x0 x1 x2 x3 x4 x5 x6 g0 g1 g2 g3 g4 g5 g6
  obtain ⟨x0, x1, x2, x3, x4, x5, x6⟩ := HR7.out.cells
  obtain ⟨y0, y1, y2, y3, y4, y5, y6⟩ := HQ7.out.cells
  go_wp2_with fail
  go_ret
  exact ⟨rfl, HB7.out⟩

set_option maxHeartbeats 4000000 in
theorem packBack_bad_bad (pr sr ds sp dp f kd : Nat) (A : Option Addr) (n c m : Nat) (bs : List UInt8) (A0 : Option Addr) (n0 c0 m0 : Nat) (cs : List UInt8) (W : World) (hmc : m ≤ c) (hm : c ≤ 9223372036854775807) (hmc0 : m0 ≤ c0) (hm0 : c0 ≤ 9223372036854775807) (hnc : n ≤ c)
    (hpr : pr < 256) (hsr : sr < 4294967296) (hds : ds < 4294967296) (hsp : sp < 65536) (hdp : dp < 65536) (hf : f < 256) (hk : kd < 256)
    (hsh : ∀ W, Calls Tryd.prog 7 #[.slice A n c] W fun e w' => e = .returned (.slice A m c) ∧ W = w')
    (hsh0 : ∀ W, Calls Tryd.prog 7 #[.slice A0 n0 c0] W fun e w' => e = .returned (.slice A0 m0 c0) ∧ W = w') (hb : Bts W W.heap.size A m bs) (hy : Bts W W.heap.size A0 m0 cs) (he : Tc.Env W)
    (h0 : goodB pr sp dp f kd = false) (hw : errW cs ≠ 0) :
    Calls Tryd.prog 4 #[.agg (pkt pr sr ds sp dp f kd), .slice A n c, .slice A0 n0 c0] W fun e w' => e = .returned (.bool true) ∧ Below W.heap.size W w' := by
  obtain ⟨l, hl⟩ : ∃ l, out pr sr ds sp dp f kd bs = l := ⟨_, rfl⟩
  obtain ⟨N, hN⟩ : ∃ N, l.length = N := ⟨_, rfl⟩
  have hN1 : N ≤ 1500 := by rw [← hN, ← hl]; exact PacM.out_len _ _ _ _ _ _ _ _
  have hbl := hb.len
  have er0 := PacM.errP_bad (n := m) h0
  have G1 := Lib.hid (fun W he => good_any pr sp dp f kd sr ds hf false h0 W he)
  have P1 := Lib.hid (fun W' (hb : Bts W' W.heap.size A m bs) hB he => build_any pr sr ds sp dp f kd A m c bs W.heap.size W' hb hB he hmc hm hpr hsr hds hsp hdp hf hk 1 N l er0 hl hN)
  have P2 := Lib.hid (fun W' (hb : Bts W' W.heap.size A0 m0 cs) h he => Wi.parse_any A0 m0 c0 cs W.heap.size W' hb h hmc0 hm0 he)
  rw [Wi.wV_bad hw] at P2
  have dw : ((errW cs : Int) != 0) = true := by simp; omega
  generalize errW cs = ew at P2 dw
  have H0 := Lib.hid hsh
  have H1 := Lib.hid hsh0
  have HY := Lib.hid hy
  have HX := Lib.hid (Pk.box W pr sr ds sp dp f kd)
  have HE := Lib.hid (he.alloc (.cells (pkt pr sr ds sp dp f kd) 25))
  have HT := Lib.hid (hb.alloc (Nat.le_refl _) (.cells (pkt pr sr ds sp dp f kd) 25))
  have HB := Lib.hid ((Below.refl _ W).alloc (Nat.le_refl _) (.cells (pkt pr sr ds sp dp f kd) 25))
  clear hsh hsh0 hb hy he hl hN hbl er0 h0 hw 
  go_enter Tryd.func4, Tryd.ntmps4
  go_wp2_with fail
  obtain ⟨U, hU⟩ : ∃ U, W.alloc (.cells (pkt pr sr ds sp dp f kd) 25) = U := ⟨_, rfl⟩
  rw [hU] at HX HE HT HB ⊢
  clear hU
  have HS0 := Lib.hid (SP.start HX.out)
  obtain ⟨s0, s1, s2, s3, s4, s5, s6, HSh⟩ := HS0.out
  go_region_held3 (fun w' => w'.cell? ⟨W.heap.size, 0, none⟩ = some (.int .u8 pr) ∧ w'.cell? ⟨W.heap.size, 1, none⟩ = some (.int .u32 sr) ∧ w'.cell? ⟨W.heap.size, 2, none⟩ = some (.int .u32 ds) ∧ w'.cell? ⟨W.heap.size, 3, none⟩ = some (.int .u16 sp) ∧
    w'.cell? ⟨W.heap.size, 4, none⟩ = some (.int .u16 dp) ∧ w'.cell? ⟨W.heap.size, 5, none⟩ = some (.int .u8 f) ∧ w'.cell? ⟨W.heap.size, 6, none⟩ = some (.int .u8 kd) ∧ Hid (Pk w' W.heap.size pr sr ds sp dp f kd ∧ Below U.heap.size U w'))
    (first | exact SP.drew HS0.out | exact SP.next (by assumption) (by assumption) | go_keep)
    (first
      | (go_at_call 7; refine (H0.out _).mono ?_; rintro e w' ⟨rfl, rfl⟩)
      | (go_at_call 6; refine (P1.out _ (HT.out.below ((SP.bel (by assumption)).mono HB.out.size)) (Nat.le_trans HB.out.size (SP.bel (by assumption)).size) (HE.out.below (SP.bel (by assumption)) (Nat.le_refl _))).mono ?_; rintro e w1 ⟨A1, c1, rfl, HT1, HC1, hb1⟩))
  have HS1 : Hid (SP U w1 W.heap.size pr sr ds sp dp f kd) := by assumption
  clear s0 s1 s2 s3 s4 s5 s6 HSh hb1
  have HX1 := Lib.hid HS1.out.pk
  have HE1 := Lib.hid (HE.out.below HS1.out.bel (Nat.le_refl _))
  have HB1 := Lib.hid (HB.out.trans (HS1.out.bel.mono HB.out.size))
  clear HX HE HB HT HS0 HS1
  obtain ⟨x0, x1, x2, x3, x4, x5, x6⟩ := HX1.out.cells
  go_wp2_with fail
  go_at_call 10
  refine (G1.out _ HE1.out).mono ?_
  rintro e w2 ⟨rfl, hb2⟩
  have HE3 := Lib.hid (HE1.out.below hb2 (Nat.le_refl _))
  have HB3 := Lib.hid (HB1.out.trans (hb2.mono HB1.out.size))
  clear hb2 HX1 HE1 HB1 HT1 HC1 P1 x0 x1 x2 x3 x4 x5 x6
  go_wp2_with (go_at_call 7; refine (H1.out _).mono ?_; rintro e w' ⟨rfl, rfl⟩)
  go_at_call 12
  refine (P2.out _ (HY.out.below HB3.out) HB3.out.size HE3.out).mono ?_
  rintro e w4 ⟨rfl, hb4⟩
  have hbx := (Below.refl _ w4).alloc (Nat.le_refl _) (.cells (pkt 0 0 0 0 0 0 0) 25)
  have HZ4 := Lib.hid (Pk.box w4 0 0 0 0 0 0 0)
  have HQ4 := Lib.hid (Pk.box w4 0 0 0 0 0 0 0)
  have HE4 := Lib.hid ((HE3.out.below hb4 (Nat.le_refl _)).below hbx (Nat.le_refl _))
  have hb34 := HB3.out.trans (hb4.mono HB3.out.size)
  have HB4 := Lib.hid (hb34.trans (hbx.mono hb34.size))
  clear hb4 hbx hb34 HE3 HB3 HY P2
  obtain ⟨x0, x1, x2, x3, x4, x5, x6⟩ := HZ4.out.cells
  obtain ⟨g0, g1, g2, g3, g4, g5, g6⟩ := HZ4.out.frozen
  go_wp2_with fail
  go_at_call 9
  refine (awake_any _ HE4.out).mono ?_
  rintro e w5 ⟨rfl, hb5⟩
  have HB5 := Lib.hid (HB4.out.trans (hb5.mono HB4.out.size))
  clear hb5 x0 x1 x2 x3 x4 x5 x6 g0 g1 g2 g3 g4 g5 g6 HE4 HB4 HQ4 HZ4
  go_wp2_with fail
  go_ret
  exact ⟨rfl, HB5.out⟩

set_option maxHeartbeats 4000000 in
theorem packBack_long_ok (pr sr ds sp dp f kd : Nat) (A : Option Addr) (n c m : Nat) (bs : List UInt8) (A0 : Option Addr) (n0 c0 m0 : Nat) (cs : List UInt8) (W : World) (hmc : m ≤ c) (hm : c ≤ 9223372036854775807) (hmc0 : m0 ≤ c0) (hm0 : c0 ≤ 9223372036854775807) (hnc : n ≤ c)
    (hpr : pr < 256) (hsr : sr < 4294967296) (hds : ds < 4294967296) (hsp : sp < 65536) (hdp : dp < 65536) (hf : f < 256) (hk : kd < 256)
    (hsh : ∀ W, Calls Tryd.prog 7 #[.slice A n c] W fun e w' => e = .returned (.slice A m c) ∧ W = w')
    (hsh0 : ∀ W, Calls Tryd.prog 7 #[.slice A0 n0 c0] W fun e w' => e = .returned (.slice A0 m0 c0) ∧ W = w') (hb : Bts W W.heap.size A m bs) (hy : Bts W W.heap.size A0 m0 cs) (he : Tc.Env W)
    (h0 : goodB pr sp dp f kd = true) (h1 : 1460 < n) (h2 : errP pr sp dp f kd m = 2) (hw : errW cs = 0) :
    Calls Tryd.prog 4 #[.agg (pkt pr sr ds sp dp f kd), .slice A n c, .slice A0 n0 c0] W fun e w' => e = .returned (.bool true) ∧ Below W.heap.size W w' := by
  obtain ⟨l, hl⟩ : ∃ l, out pr sr ds sp dp f kd bs = l := ⟨_, rfl⟩
  obtain ⟨N, hN⟩ : ∃ N, l.length = N := ⟨_, rfl⟩
  have hN1 : N ≤ 1500 := by rw [← hN, ← hl]; exact PacM.out_len _ _ _ _ _ _ _ _
  have hbl := hb.len
  have er0 := h2
  have hd : (1400 : Int) < n := by omega
  have G1 := Lib.hid (fun W he => good_any pr sp dp f kd sr ds hf true h0 W he)
  have P1 := Lib.hid (fun W' (hb : Bts W' W.heap.size A m bs) hB he => build_any pr sr ds sp dp f kd A m c bs W.heap.size W' hb hB he hmc hm hpr hsr hds hsp hdp hf hk 2 N l er0 hl hN)
  have P2 := Lib.hid (fun W' (hb : Bts W' W.heap.size A0 m0 cs) h he => Wi.parse_any A0 m0 c0 cs W.heap.size W' hb h hmc0 hm0 he)
  obtain ⟨pr2, sr2, ds2, sp2, dp2, f2, k2, hV, g2, b1, b2, b3, b4, b5, b6, b7⟩ := parsed_is hw
  rw [hV] at P2
  obtain ⟨N2, hN2⟩ : ∃ N2, (whole pr2 sr2 ds2 sp2 dp2 f2 k2 []).length = N2 := ⟨_, rfl⟩
  have er2 : errP pr2 sp2 dp2 f2 k2 0 = 0 := PacM.errP_ok g2 (Nat.zero_le _)
  have P3 := Lib.hid (fun W' he => build_any pr2 sr2 ds2 sp2 dp2 f2 k2 none 0 0 [] W'.heap.size W' (Bts.empty _ _ _) (Nat.le_refl _) he (Nat.le_refl _) (by omega) b1 b2 b3 b4 b5 b6 b7 0 N2 _ er2 (PacM.out_ok er2) hN2)
  have P4 : Hid (∀ A c W (hb : Bts W W.heap.size A N2 (whole pr2 sr2 ds2 sp2 dp2 f2 k2 [])) (hc : N2 ≤ c ∧ c ≤ 9223372036854775807) (he : Tc.Env W), Calls Tryd.prog 12 #[.slice A N2 c] W fun e w' => e = .returned (okP pr2 sr2 ds2 sp2 dp2 f2 k2) ∧ Below W.heap.size W w') := by
    intro A c W hb hc he
    have h := Wi.parse_any A N2 c _ W.heap.size W hb (Nat.le_refl _) hc.1 hc.2 he
    rw [wV_whole (x := []) er2 b1 b2 b3 b4 b5 b7] at h
    exact h
  generalize whole pr2 sr2 ds2 sp2 dp2 f2 k2 [] = l2 at P3 P4
  clear hV g2 er2 hN2
  have H0 := Lib.hid hsh
  have H1 := Lib.hid hsh0
  have HY := Lib.hid hy
  have HX := Lib.hid (Pk.box W pr sr ds sp dp f kd)
  have HE := Lib.hid (he.alloc (.cells (pkt pr sr ds sp dp f kd) 25))
  have HT := Lib.hid (hb.alloc (Nat.le_refl _) (.cells (pkt pr sr ds sp dp f kd) 25))
  have HB := Lib.hid ((Below.refl _ W).alloc (Nat.le_refl _) (.cells (pkt pr sr ds sp dp f kd) 25))
  clear hsh hsh0 hb hy he hl hN hbl er0 h0 hw h1 h2
  go_enter Tryd.func4, Tryd.ntmps4
  go_wp2_with fail
  obtain ⟨U, hU⟩ : ∃ U, W.alloc (.cells (pkt pr sr ds sp dp f kd) 25) = U := ⟨_, rfl⟩
  rw [hU] at HX HE HT HB ⊢
  clear hU
  have HS0 := Lib.hid (SP.start HX.out)
  obtain ⟨s0, s1, s2, s3, s4, s5, s6, HSh⟩ := HS0.out
  go_region_held3 (fun w' => w'.cell? ⟨W.heap.size, 0, none⟩ = some (.int .u8 pr) ∧ w'.cell? ⟨W.heap.size, 1, none⟩ = some (.int .u32 sr) ∧ w'.cell? ⟨W.heap.size, 2, none⟩ = some (.int .u32 ds) ∧ w'.cell? ⟨W.heap.size, 3, none⟩ = some (.int .u16 sp) ∧
    w'.cell? ⟨W.heap.size, 4, none⟩ = some (.int .u16 dp) ∧ w'.cell? ⟨W.heap.size, 5, none⟩ = some (.int .u8 f) ∧ w'.cell? ⟨W.heap.size, 6, none⟩ = some (.int .u8 kd) ∧ Hid (Pk w' W.heap.size pr sr ds sp dp f kd ∧ Below U.heap.size U w'))
    (first | exact SP.drew HS0.out | exact SP.next (by assumption) (by assumption) | go_keep)
    (first
      | (go_at_call 7; refine (H0.out _).mono ?_; rintro e w' ⟨rfl, rfl⟩)
      | (go_at_call 6; refine (P1.out _ (HT.out.below ((SP.bel (by assumption)).mono HB.out.size)) (Nat.le_trans HB.out.size (SP.bel (by assumption)).size) (HE.out.below (SP.bel (by assumption)) (Nat.le_refl _))).mono ?_; rintro e w1 ⟨A1, c1, rfl, HT1, HC1, hb1⟩))
  have HS1 : Hid (SP U w1 W.heap.size pr sr ds sp dp f kd) := by assumption
  clear s0 s1 s2 s3 s4 s5 s6 HSh hb1
  have HX1 := Lib.hid HS1.out.pk
  have HE1 := Lib.hid (HE.out.below HS1.out.bel (Nat.le_refl _))
  have HB1 := Lib.hid (HB.out.trans (HS1.out.bel.mono HB.out.size))
  clear HX HE HB HT HS0 HS1
  obtain ⟨x0, x1, x2, x3, x4, x5, x6⟩ := HX1.out.cells
  go_wp2_with fail
  go_at_call 10
  refine (G1.out _ HE1.out).mono ?_
  rintro e w2 ⟨rfl, hb2⟩
  have HE3 := Lib.hid (HE1.out.below hb2 (Nat.le_refl _))
  have HB3 := Lib.hid (HB1.out.trans (hb2.mono HB1.out.size))
  clear hb2 HX1 HE1 HB1 HT1 HC1 P1 x0 x1 x2 x3 x4 x5 x6
  go_wp2_with (go_at_call 7; refine (H1.out _).mono ?_; rintro e w' ⟨rfl, rfl⟩)
  go_at_call 12
  refine (P2.out _ (HY.out.below HB3.out) HB3.out.size HE3.out).mono ?_
  rintro e w4 ⟨rfl, hb4⟩
  have hbx := (Below.refl _ w4).alloc (Nat.le_refl _) (.cells (pkt pr2 sr2 ds2 sp2 dp2 f2 k2) 25)
  have HZ4 := Lib.hid (Pk.box w4 0 0 0 0 0 0 0)
  have HQ4 := Lib.hid (Pk.box w4 pr2 sr2 ds2 sp2 dp2 f2 k2)
  have HE4 := Lib.hid ((HE3.out.below hb4 (Nat.le_refl _)).below hbx (Nat.le_refl _))
  have hb34 := HB3.out.trans (hb4.mono HB3.out.size)
  have HB4 := Lib.hid (hb34.trans (hbx.mono hb34.size))
  clear hb4 hbx hb34 HE3 HB3 HY P2
  obtain ⟨x0, x1, x2, x3, x4, x5, x6⟩ := HZ4.out.cells
  obtain ⟨g0, g1, g2, g3, g4, g5, g6⟩ := HZ4.out.frozen
  obtain ⟨y0, y1, y2, y3, y4, y5, y6⟩ := HQ4.out.cells
  go_wp2_with fail
  go_at_call 6
  refine (P3.out _ HE4.out).mono ?_
  rintro e w5 ⟨A5, c5, rfl, HT5, HC5, hb5⟩
  have HQ5 := Lib.hid (HQ4.out.next hb5.out)
  have HE5 := Lib.hid (HE4.out.below hb5.out (Nat.le_refl _))
  have HB5 := Lib.hid (HB4.out.trans (hb5.out.mono HB4.out.size))
  clear x0 x1 x2 x3 x4 x5 x6 g0 g1 g2 g3 g4 g5 g6 y0 y1 y2 y3 y4 y5 y6 HZ4 HQ4 HE4 HB4 hb5 P3
  go_wp2_with fail
  go_at_call 12
  refine (P4.out A5 c5 _ HT5.out HC5.out HE5.out).mono ?_
  rintro e w6 ⟨rfl, hb6⟩
  have hbx := (Below.refl _ w6).alloc (Nat.le_refl _) (.cells (pkt pr2 sr2 ds2 sp2 dp2 f2 k2) 25)
  have HZ6 := Lib.hid (Pk.box w6 0 0 0 0 0 0 0)
  have HR6 := Lib.hid (Pk.box w6 pr2 sr2 ds2 sp2 dp2 f2 k2)
  have HQ6 := Lib.hid ((HQ5.out.next hb6).next hbx)
  have HE6 := Lib.hid ((HE5.out.below hb6 (Nat.le_refl _)).below hbx (Nat.le_refl _))
  have hb56 := HB5.out.trans (hb6.mono HB5.out.size)
  have HB6 := Lib.hid (hb56.trans (hbx.mono hb56.size))
  clear hb6 hbx hb56 HE5 HB5 HQ5 HT5 HC5 P4
  obtain ⟨x0, x1, x2, x3, x4, x5, x6⟩ := HZ6.out.cells
  obtain ⟨g0, g1, g2, g3, g4, g5, g6⟩ := HZ6.out.frozen
  go_wp2_with fail
  go_at_call 9
  refine (awake_any _ HE6.out).mono ?_
  rintro e w7 ⟨rfl, hb7⟩
  have HR7 := Lib.hid (HR6.out.next hb7)
  have HQ7 := Lib.hid (HQ6.out.next hb7)
  have HB7 := Lib.hid (HB6.out.trans (hb7.mono HB6.out.size))
  clear hb7 HR6 HQ6 HE6 HB6 HZ6 x0 x1 x2 x3 x4 x5 x6 g0 g1 g2 g3 g4 g5 g6
  obtain ⟨x0, x1, x2, x3, x4, x5, x6⟩ := HR7.out.cells
  obtain ⟨y0, y1, y2, y3, y4, y5, y6⟩ := HQ7.out.cells
  go_wp2_with fail
  go_ret
  exact ⟨rfl, HB7.out⟩

set_option maxHeartbeats 4000000 in
theorem packBack_long_bad (pr sr ds sp dp f kd : Nat) (A : Option Addr) (n c m : Nat) (bs : List UInt8) (A0 : Option Addr) (n0 c0 m0 : Nat) (cs : List UInt8) (W : World) (hmc : m ≤ c) (hm : c ≤ 9223372036854775807) (hmc0 : m0 ≤ c0) (hm0 : c0 ≤ 9223372036854775807) (hnc : n ≤ c)
    (hpr : pr < 256) (hsr : sr < 4294967296) (hds : ds < 4294967296) (hsp : sp < 65536) (hdp : dp < 65536) (hf : f < 256) (hk : kd < 256)
    (hsh : ∀ W, Calls Tryd.prog 7 #[.slice A n c] W fun e w' => e = .returned (.slice A m c) ∧ W = w')
    (hsh0 : ∀ W, Calls Tryd.prog 7 #[.slice A0 n0 c0] W fun e w' => e = .returned (.slice A0 m0 c0) ∧ W = w') (hb : Bts W W.heap.size A m bs) (hy : Bts W W.heap.size A0 m0 cs) (he : Tc.Env W)
    (h0 : goodB pr sp dp f kd = true) (h1 : 1460 < n) (h2 : errP pr sp dp f kd m = 2) (hw : errW cs ≠ 0) :
    Calls Tryd.prog 4 #[.agg (pkt pr sr ds sp dp f kd), .slice A n c, .slice A0 n0 c0] W fun e w' => e = .returned (.bool true) ∧ Below W.heap.size W w' := by
  obtain ⟨l, hl⟩ : ∃ l, out pr sr ds sp dp f kd bs = l := ⟨_, rfl⟩
  obtain ⟨N, hN⟩ : ∃ N, l.length = N := ⟨_, rfl⟩
  have hN1 : N ≤ 1500 := by rw [← hN, ← hl]; exact PacM.out_len _ _ _ _ _ _ _ _
  have hbl := hb.len
  have er0 := h2
  have hd : (1400 : Int) < n := by omega
  have G1 := Lib.hid (fun W he => good_any pr sp dp f kd sr ds hf true h0 W he)
  have P1 := Lib.hid (fun W' (hb : Bts W' W.heap.size A m bs) hB he => build_any pr sr ds sp dp f kd A m c bs W.heap.size W' hb hB he hmc hm hpr hsr hds hsp hdp hf hk 2 N l er0 hl hN)
  have P2 := Lib.hid (fun W' (hb : Bts W' W.heap.size A0 m0 cs) h he => Wi.parse_any A0 m0 c0 cs W.heap.size W' hb h hmc0 hm0 he)
  rw [Wi.wV_bad hw] at P2
  have dw : ((errW cs : Int) != 0) = true := by simp; omega
  generalize errW cs = ew at P2 dw
  have H0 := Lib.hid hsh
  have H1 := Lib.hid hsh0
  have HY := Lib.hid hy
  have HX := Lib.hid (Pk.box W pr sr ds sp dp f kd)
  have HE := Lib.hid (he.alloc (.cells (pkt pr sr ds sp dp f kd) 25))
  have HT := Lib.hid (hb.alloc (Nat.le_refl _) (.cells (pkt pr sr ds sp dp f kd) 25))
  have HB := Lib.hid ((Below.refl _ W).alloc (Nat.le_refl _) (.cells (pkt pr sr ds sp dp f kd) 25))
  clear hsh hsh0 hb hy he hl hN hbl er0 h0 hw h1 h2
  go_enter Tryd.func4, Tryd.ntmps4
  go_wp2_with fail
  obtain ⟨U, hU⟩ : ∃ U, W.alloc (.cells (pkt pr sr ds sp dp f kd) 25) = U := ⟨_, rfl⟩
  rw [hU] at HX HE HT HB ⊢
  clear hU
  have HS0 := Lib.hid (SP.start HX.out)
  obtain ⟨s0, s1, s2, s3, s4, s5, s6, HSh⟩ := HS0.out
  go_region_held3 (fun w' => w'.cell? ⟨W.heap.size, 0, none⟩ = some (.int .u8 pr) ∧ w'.cell? ⟨W.heap.size, 1, none⟩ = some (.int .u32 sr) ∧ w'.cell? ⟨W.heap.size, 2, none⟩ = some (.int .u32 ds) ∧ w'.cell? ⟨W.heap.size, 3, none⟩ = some (.int .u16 sp) ∧
    w'.cell? ⟨W.heap.size, 4, none⟩ = some (.int .u16 dp) ∧ w'.cell? ⟨W.heap.size, 5, none⟩ = some (.int .u8 f) ∧ w'.cell? ⟨W.heap.size, 6, none⟩ = some (.int .u8 kd) ∧ Hid (Pk w' W.heap.size pr sr ds sp dp f kd ∧ Below U.heap.size U w'))
    (first | exact SP.drew HS0.out | exact SP.next (by assumption) (by assumption) | go_keep)
    (first
      | (go_at_call 7; refine (H0.out _).mono ?_; rintro e w' ⟨rfl, rfl⟩)
      | (go_at_call 6; refine (P1.out _ (HT.out.below ((SP.bel (by assumption)).mono HB.out.size)) (Nat.le_trans HB.out.size (SP.bel (by assumption)).size) (HE.out.below (SP.bel (by assumption)) (Nat.le_refl _))).mono ?_; rintro e w1 ⟨A1, c1, rfl, HT1, HC1, hb1⟩))
  have HS1 : Hid (SP U w1 W.heap.size pr sr ds sp dp f kd) := by assumption
  clear s0 s1 s2 s3 s4 s5 s6 HSh hb1
  have HX1 := Lib.hid HS1.out.pk
  have HE1 := Lib.hid (HE.out.below HS1.out.bel (Nat.le_refl _))
  have HB1 := Lib.hid (HB.out.trans (HS1.out.bel.mono HB.out.size))
  clear HX HE HB HT HS0 HS1
  obtain ⟨x0, x1, x2, x3, x4, x5, x6⟩ := HX1.out.cells
  go_wp2_with fail
  go_at_call 10
  refine (G1.out _ HE1.out).mono ?_
  rintro e w2 ⟨rfl, hb2⟩
  have HE3 := Lib.hid (HE1.out.below hb2 (Nat.le_refl _))
  have HB3 := Lib.hid (HB1.out.trans (hb2.mono HB1.out.size))
  clear hb2 HX1 HE1 HB1 HT1 HC1 P1 x0 x1 x2 x3 x4 x5 x6
  go_wp2_with (go_at_call 7; refine (H1.out _).mono ?_; rintro e w' ⟨rfl, rfl⟩)
  go_at_call 12
  refine (P2.out _ (HY.out.below HB3.out) HB3.out.size HE3.out).mono ?_
  rintro e w4 ⟨rfl, hb4⟩
  have hbx := (Below.refl _ w4).alloc (Nat.le_refl _) (.cells (pkt 0 0 0 0 0 0 0) 25)
  have HZ4 := Lib.hid (Pk.box w4 0 0 0 0 0 0 0)
  have HQ4 := Lib.hid (Pk.box w4 0 0 0 0 0 0 0)
  have HE4 := Lib.hid ((HE3.out.below hb4 (Nat.le_refl _)).below hbx (Nat.le_refl _))
  have hb34 := HB3.out.trans (hb4.mono HB3.out.size)
  have HB4 := Lib.hid (hb34.trans (hbx.mono hb34.size))
  clear hb4 hbx hb34 HE3 HB3 HY P2
  obtain ⟨x0, x1, x2, x3, x4, x5, x6⟩ := HZ4.out.cells
  obtain ⟨g0, g1, g2, g3, g4, g5, g6⟩ := HZ4.out.frozen
  go_wp2_with fail
  go_at_call 9
  refine (awake_any _ HE4.out).mono ?_
  rintro e w5 ⟨rfl, hb5⟩
  have HB5 := Lib.hid (HB4.out.trans (hb5.mono HB4.out.size))
  clear hb5 x0 x1 x2 x3 x4 x5 x6 g0 g1 g2 g3 g4 g5 g6 HE4 HB4 HQ4 HZ4
  go_wp2_with fail
  go_ret
  exact ⟨rfl, HB5.out⟩

theorem packBack_walk (p0 p1 p2 p3 p4 p5 p6 : Int) (a1 : Option Addr) (n1 c1 : Nat) (b1 : List UInt8) (a2 : Option Addr) (n2 c2 : Nat) (b2 : List UInt8) (w : World) (he : Tc.Env w)
    (hp : (0 ≤ p0 ∧ p0 ≤ 255) ∧ (0 ≤ p1 ∧ p1 ≤ 4294967295) ∧ (0 ≤ p2 ∧ p2 ≤ 4294967295) ∧ (0 ≤ p3 ∧ p3 ≤ 65535) ∧ (0 ≤ p4 ∧ p4 ≤ 65535) ∧ (0 ≤ p5 ∧ p5 ≤ 255) ∧ (0 ≤ p6 ∧ p6 ≤ 255))
    (w1 : Bts w w.heap.size a1 n1 b1) (hc1 : n1 ≤ c1) (hm1 : c1 ≤ maxLen) (w2 : Bts w w.heap.size a2 n2 b2) (hc2 : n2 ≤ c2) (hm2 : c2 ≤ maxLen) :
    Calls Tryd.prog 4 #[.agg (pkt p0 p1 p2 p3 p4 p5 p6), .slice a1 n1 c1, .slice a2 n2 c2] w fun e w' => e = .returned (.bool true) ∧ Below w.heap.size w w' := by
  unfold maxLen at hm1 hm2
  obtain ⟨h0, h1, h2, h3, h4, h5, h6⟩ := hp
  obtain ⟨pr, rfl⟩ := Int.eq_ofNat_of_zero_le h0.1
  obtain ⟨sr, rfl⟩ := Int.eq_ofNat_of_zero_le h1.1
  obtain ⟨ds, rfl⟩ := Int.eq_ofNat_of_zero_le h2.1
  obtain ⟨sp, rfl⟩ := Int.eq_ofNat_of_zero_le h3.1
  obtain ⟨dp, rfl⟩ := Int.eq_ofNat_of_zero_le h4.1
  obtain ⟨f, rfl⟩ := Int.eq_ofNat_of_zero_le h5.1
  obtain ⟨kd, rfl⟩ := Int.eq_ofNat_of_zero_le h6.1
  have hb := w1.take 1600
  have hy := w2.take 1600
  have C1 := fun W => short_any a1 n1 c1 hc1 (by omega) W
  have C2 := fun W => short_any a2 n2 c2 hc2 (by omega) W
  have hml := PacM.mx_le pr
  by_cases g : goodB pr sp dp f kd = true
  · by_cases hl : mx pr < min n1 1600
    · have e2 := PacM.errP_long g hl
      by_cases hw : errW (b2.take 1600) = 0
      · exact packBack_long_ok pr sr ds sp dp f kd a1 n1 c1 _ _ a2 n2 c2 _ _ w (by omega) (by omega) (by omega) (by omega) hc1 (by omega) (by omega) (by omega) (by omega) (by omega) (by omega) (by omega) C1 C2 hb hy he g (by omega) e2 hw
      · exact packBack_long_bad pr sr ds sp dp f kd a1 n1 c1 _ _ a2 n2 c2 _ _ w (by omega) (by omega) (by omega) (by omega) hc1 (by omega) (by omega) (by omega) (by omega) (by omega) (by omega) (by omega) C1 C2 hb hy he g (by omega) e2 hw
    · have e0 := PacM.errP_ok g (Nat.le_of_not_lt hl)
      by_cases hw : errW (b2.take 1600) = 0
      · exact packBack_ok_ok pr sr ds sp dp f kd a1 n1 c1 _ _ a2 n2 c2 _ _ w (by omega) (by omega) (by omega) (by omega) hc1 (by omega) (by omega) (by omega) (by omega) (by omega) (by omega) (by omega) C1 C2 hb hy he e0 hw
      · exact packBack_ok_bad pr sr ds sp dp f kd a1 n1 c1 _ _ a2 n2 c2 _ _ w (by omega) (by omega) (by omega) (by omega) hc1 (by omega) (by omega) (by omega) (by omega) (by omega) (by omega) (by omega) C1 C2 hb hy he e0 hw
  · have g : goodB pr sp dp f kd = false := by simpa using g
    by_cases hw : errW (b2.take 1600) = 0
    · exact packBack_bad_ok pr sr ds sp dp f kd a1 n1 c1 _ _ a2 n2 c2 _ _ w (by omega) (by omega) (by omega) (by omega) hc1 (by omega) (by omega) (by omega) (by omega) (by omega) (by omega) (by omega) C1 C2 hb hy he g hw
    · exact packBack_bad_bad pr sr ds sp dp f kd a1 n1 c1 _ _ a2 n2 c2 _ _ w (by omega) (by omega) (by omega) (by omega) hc1 (by omega) (by omega) (by omega) (by omega) (by omega) (by omega) (by omega) C1 C2 hb hy he g hw

end Pa
end Go.Proofs.YtapcjjhbdhkhhaaDoor
