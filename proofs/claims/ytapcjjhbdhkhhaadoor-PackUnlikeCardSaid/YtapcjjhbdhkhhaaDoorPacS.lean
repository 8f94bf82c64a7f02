/- Layer 9: the walk of PackUnlike. Written by mkPacS.py. -/
import Derived.Test.YtapcjjhbdhkhhaaDoorPacP
set_option linter.unusedVariables false
set_option linter.unusedSimpArgs false
namespace Go.Proofs.YtapcjjhbdhkhhaaDoor
open Go.ChangeShapes Go.WideShapes Go.ChangeAt Go.RowKit Go.Mtl
namespace Pa
open PacM (goodB inner whole mx errP out)
open Wi (Pk pkt wV)
open Ip (ret_int Row)

theorem text_ne {l l2 : List UInt8} (h : l ≠ l2) : ((textOf l).toList == (textOf l2).toList) = false := by
  rw [beq_eq_false_iff_ne, ByteArray.toList_eq, ByteArray.toList_eq]
  simpa [textOf] using h
theorem pk_ne {pr sr ds sp dp f kd pr2 sr2 ds2 sp2 dp2 f2 k2 : Nat} (h : ¬ (pr = pr2 ∧ sr = sr2 ∧ ds = ds2 ∧ sp = sp2 ∧ dp = dp2 ∧ f = f2 ∧ kd = k2)) :
    ¬ ((pr : Int) = pr2 ∧ (sr : Int) = sr2 ∧ (ds : Int) = ds2 ∧ (sp : Int) = sp2 ∧ (dp : Int) = dp2 ∧ (f : Int) = f2 ∧ (kd : Int) = k2) := by omega

set_option maxHeartbeats 4000000 in
theorem packUnlike_one (pr sr ds sp dp f kd pr2 sr2 ds2 sp2 dp2 f2 k2 : Nat) (A : Option Addr) (n c m : Nat) (bs : List UInt8) (A0 : Option Addr) (n2 c2 m2 : Nat) (cs : List UInt8) (W : World) (hmc : m ≤ c) (hm : c ≤ 9223372036854775807) (hmc2 : m2 ≤ c2) (hm2 : c2 ≤ 9223372036854775807)
    (a1 : pr < 256) (a2 : sr < 4294967296) (a3 : ds < 4294967296) (a4 : sp < 65536) (a5 : dp < 65536) (a6 : f < 256) (a7 : kd < 256)
    (b1 : pr2 < 256) (b2 : sr2 < 4294967296) (b3 : ds2 < 4294967296) (b4 : sp2 < 65536) (b5 : dp2 < 65536) (b6 : f2 < 256) (b7 : k2 < 256)
    (hsh : ∀ W, Calls Tryd.prog 7 #[.slice A n c] W fun e w' => e = .returned (.slice A m c) ∧ W = w')
    (hsh2 : ∀ W, Calls Tryd.prog 7 #[.slice A0 n2 c2] W fun e w' => e = .returned (.slice A0 m2 c2) ∧ W = w') (hb : Bts W W.heap.size A m bs) (hy : Bts W W.heap.size A0 m2 cs) (he : Tc.Env W)
    (h0 : errP pr sp dp f kd m ≠ 0) :
    Calls Tryd.prog 5 #[.agg (pkt pr sr ds sp dp f kd), .agg (pkt pr2 sr2 ds2 sp2 dp2 f2 k2), .slice A n c, .slice A0 n2 c2] W fun e w' => e = .returned (.bool true) ∧ Below W.heap.size W w' := by
  obtain ⟨l, hl⟩ : ∃ l, out pr sr ds sp dp f kd bs = l := ⟨_, rfl⟩
  obtain ⟨N, hN⟩ : ∃ N, l.length = N := ⟨_, rfl⟩
  obtain ⟨er, her⟩ : ∃ er, errP pr sp dp f kd m = er := ⟨_, rfl⟩
  obtain ⟨l2, hl2⟩ : ∃ l, out pr2 sr2 ds2 sp2 dp2 f2 k2 cs = l := ⟨_, rfl⟩
  obtain ⟨N2, hN2⟩ : ∃ N, l2.length = N := ⟨_, rfl⟩
  obtain ⟨er2, her2⟩ : ∃ er, errP pr2 sp2 dp2 f2 k2 m2 = er := ⟨_, rfl⟩
  have P1 := Lib.hid (fun W' (hb : Bts W' W.heap.size A m bs) hB he => build_any pr sr ds sp dp f kd A m c bs W.heap.size W' hb hB he hmc hm a1 a2 a3 a4 a5 a6 a7 er N l her hl hN)
  have P2 := Lib.hid (fun W' (hb : Bts W' W.heap.size A0 m2 cs) hB he => build_any pr2 sr2 ds2 sp2 dp2 f2 k2 A0 m2 c2 cs W.heap.size W' hb hB he hmc2 hm2 b1 b2 b3 b4 b5 b6 b7 er2 N2 l2 her2 hl2 hN2)
  have d1 : ((er : Int) != 0) = true := by rw [her] at h0; simp; omega
  clear h0 hl hl2 hN hN2 her her2
  have H0 := Lib.hid hsh
  have H1 := Lib.hid hsh2
  have hbx := (Below.refl _ (W.alloc (.cells (pkt pr sr ds sp dp f kd) 25))).alloc (Nat.le_refl _) (.cells (pkt pr2 sr2 ds2 sp2 dp2 f2 k2) 25)
  have HXp := Lib.hid ((Pk.box W pr sr ds sp dp f kd).next hbx)
  have HXq : Hid (Pk ((W.alloc (.cells (pkt pr sr ds sp dp f kd) 25)).alloc (.cells (pkt pr2 sr2 ds2 sp2 dp2 f2 k2) 25)) (W.heap.size + 1) pr2 sr2 ds2 sp2 dp2 f2 k2) := by
    have := Pk.box (W.alloc (.cells (pkt pr sr ds sp dp f kd) 25)) pr2 sr2 ds2 sp2 dp2 f2 k2
    rw [World.size_alloc] at this
    exact this
  have HE := Lib.hid ((he.alloc (.cells (pkt pr sr ds sp dp f kd) 25)).alloc (.cells (pkt pr2 sr2 ds2 sp2 dp2 f2 k2) 25))
  have HB := Lib.hid (((Below.refl _ W).alloc (Nat.le_refl _) (.cells (pkt pr sr ds sp dp f kd) 25)).trans (hbx.mono (by simp)))
  have HT := Lib.hid (hb.below HB.out)
  have HY := Lib.hid (hy.below HB.out)
  clear hsh hsh2 hb hy he hbx
  go_enter Tryd.func5, Tryd.ntmps5
  go_wp2_with fail
  obtain ⟨U, hU⟩ : ∃ U, (W.alloc (.cells (pkt pr sr ds sp dp f kd) 25)).alloc (.cells (pkt pr2 sr2 ds2 sp2 dp2 f2 k2) 25) = U := ⟨_, rfl⟩
  rw [hU] at HXp HXq HE HT HY HB ⊢
  clear hU
  have HS0 := Lib.hid (SP.start HXp.out)
  obtain ⟨s0, s1, s2, s3, s4, s5, s6, HSh⟩ := HS0.out
  go_region_held3 (fun w' => w'.cell? ⟨W.heap.size, 0, none⟩ = some (.int .u8 pr) ∧ w'.cell? ⟨W.heap.size, 1, none⟩ = some (.int .u32 sr) ∧ w'.cell? ⟨W.heap.size, 2, none⟩ = some (.int .u32 ds) ∧ w'.cell? ⟨W.heap.size, 3, none⟩ = some (.int .u16 sp) ∧ w'.cell? ⟨W.heap.size, 4, none⟩ = some (.int .u16 dp) ∧ w'.cell? ⟨W.heap.size, 5, none⟩ = some (.int .u8 f) ∧ w'.cell? ⟨W.heap.size, 6, none⟩ = some (.int .u8 kd) ∧ Hid (Pk w' (W.heap.size) pr sr ds sp dp f kd ∧ Below U.heap.size U w'))
    (first | exact SP.drew HS0.out | exact SP.next (by assumption) (by assumption) | go_keep)
    (first
      | (go_at_call 7; refine (H0.out _).mono ?_; rintro e w' ⟨rfl, rfl⟩)
      | (go_at_call 6; refine (P1.out _ (HT.out.below ((SP.bel (by assumption)).mono HB.out.size)) (Nat.le_trans HB.out.size (SP.bel (by assumption)).size) (HE.out.below (SP.bel (by assumption)) (Nat.le_refl _))).mono ?_; rintro e w1 ⟨A1, c1, rfl, HT1, HC1, hb1⟩))
  have HS1 : Hid (SP U w1 W.heap.size pr sr ds sp dp f kd) := by assumption
  clear s0 s1 s2 s3 s4 s5 s6 HSh hb1
  have HXp1 := Lib.hid HS1.out.pk
  have HXq1 := Lib.hid (HXq.out.next HS1.out.bel)
  have HE1 := Lib.hid (HE.out.below HS1.out.bel (Nat.le_refl _))
  have HY1 := Lib.hid (HY.out.below (HS1.out.bel.mono HB.out.size))
  have HB1 := Lib.hid (HB.out.trans (HS1.out.bel.mono HB.out.size))
  clear HXp HXq HE HB HT HY HS0 HS1 HC1 P1
  go_wp2_with fail
  have HS0 := Lib.hid (SP.start HXq1.out)
  obtain ⟨s0, s1, s2, s3, s4, s5, s6, HSh⟩ := HS0.out
  go_region_held3 (fun w' => w'.cell? ⟨W.heap.size + 1, 0, none⟩ = some (.int .u8 pr2) ∧ w'.cell? ⟨W.heap.size + 1, 1, none⟩ = some (.int .u32 sr2) ∧ w'.cell? ⟨W.heap.size + 1, 2, none⟩ = some (.int .u32 ds2) ∧ w'.cell? ⟨W.heap.size + 1, 3, none⟩ = some (.int .u16 sp2) ∧ w'.cell? ⟨W.heap.size + 1, 4, none⟩ = some (.int .u16 dp2) ∧ w'.cell? ⟨W.heap.size + 1, 5, none⟩ = some (.int .u8 f2) ∧ w'.cell? ⟨W.heap.size + 1, 6, none⟩ = some (.int .u8 k2) ∧ Hid (Pk w' (W.heap.size + 1) pr2 sr2 ds2 sp2 dp2 f2 k2 ∧ Below w1.heap.size w1 w'))
    (first | exact SP.drew HS0.out | exact SP.next (by assumption) (by assumption) | go_keep)
    (first
      | (go_at_call 7; refine (H1.out _).mono ?_; rintro e w' ⟨rfl, rfl⟩)
      | (go_at_call 6; refine (P2.out _ (HY1.out.below ((SP.bel (by assumption)).mono HB1.out.size)) (Nat.le_trans HB1.out.size (SP.bel (by assumption)).size) (HE1.out.below (SP.bel (by assumption)) (Nat.le_refl _))).mono ?_; rintro e w2 ⟨A2, c2, rfl, HT2, HC2, hb2⟩))
  have HS2 : Hid (SP w1 w2 (W.heap.size + 1) pr2 sr2 ds2 sp2 dp2 f2 k2) := by assumption
  clear s0 s1 s2 s3 s4 s5 s6 HSh hb2
  have HXp2 := Lib.hid (HXp1.out.next HS2.out.bel)
  have HXq2 := Lib.hid HS2.out.pk
  have HE2 := Lib.hid (HE1.out.below HS2.out.bel (Nat.le_refl _))
  have HT1 := Lib.hid (HT1.out.below HS2.out.bel)
  have hs2 := HS2.out.bel.size
  have HB2 := Lib.hid (HB1.out.trans (HS2.out.bel.mono HB1.out.size))
  clear HXp1 HXq1 HE1 HY1 HB1 HS0 HS2 HC2 P2
  go_wp2_with fail
  go_at_call 9
  refine (awake_any _ HE2.out).mono ?_
  rintro e w3 ⟨rfl, hb3⟩
  have HXp3 := Lib.hid (HXp2.out.next hb3)
  have HXq3 := Lib.hid (HXq2.out.next hb3)
  have HB3 := Lib.hid (HB2.out.trans (hb3.mono HB2.out.size))
  have hcv := Ip.text_at (c := c1) HT1.out (hb3.mono hs2)
  have hcv2 := Ip.text_at (c := c2) HT2.out hb3
  clear hb3 HXp2 HXq2 HE2 HB2 HT1 HT2 hs2
  go_wp2_with fail
  all_goals
    go_ret
    exact ⟨rfl, HB3.out⟩

set_option maxHeartbeats 4000000 in
theorem packUnlike_two (pr sr ds sp dp f kd pr2 sr2 ds2 sp2 dp2 f2 k2 : Nat) (A : Option Addr) (n c m : Nat) (bs : List UInt8) (A0 : Option Addr) (n2 c2 m2 : Nat) (cs : List UInt8) (W : World) (hmc : m ≤ c) (hm : c ≤ 9223372036854775807) (hmc2 : m2 ≤ c2) (hm2 : c2 ≤ 9223372036854775807)
    (a1 : pr < 256) (a2 : sr < 4294967296) (a3 : ds < 4294967296) (a4 : sp < 65536) (a5 : dp < 65536) (a6 : f < 256) (a7 : kd < 256)
    (b1 : pr2 < 256) (b2 : sr2 < 4294967296) (b3 : ds2 < 4294967296) (b4 : sp2 < 65536) (b5 : dp2 < 65536) (b6 : f2 < 256) (b7 : k2 < 256)
    (hsh : ∀ W, Calls Tryd.prog 7 #[.slice A n c] W fun e w' => e = .returned (.slice A m c) ∧ W = w')
    (hsh2 : ∀ W, Calls Tryd.prog 7 #[.slice A0 n2 c2] W fun e w' => e = .returned (.slice A0 m2 c2) ∧ W = w') (hb : Bts W W.heap.size A m bs) (hy : Bts W W.heap.size A0 m2 cs) (he : Tc.Env W)
    (h0 : errP pr sp dp f kd m = 0) (h2 : errP pr2 sp2 dp2 f2 k2 m2 ≠ 0) :
    Calls Tryd.prog 5 #[.agg (pkt pr sr ds sp dp f kd), .agg (pkt pr2 sr2 ds2 sp2 dp2 f2 k2), .slice A n c, .slice A0 n2 c2] W fun e w' => e = .returned (.bool true) ∧ Below W.heap.size W w' := by
  obtain ⟨l, hl⟩ : ∃ l, out pr sr ds sp dp f kd bs = l := ⟨_, rfl⟩
  obtain ⟨N, hN⟩ : ∃ N, l.length = N := ⟨_, rfl⟩
  obtain ⟨er, her⟩ : ∃ er, errP pr sp dp f kd m = er := ⟨_, rfl⟩
  obtain ⟨l2, hl2⟩ : ∃ l, out pr2 sr2 ds2 sp2 dp2 f2 k2 cs = l := ⟨_, rfl⟩
  obtain ⟨N2, hN2⟩ : ∃ N, l2.length = N := ⟨_, rfl⟩
  obtain ⟨er2, her2⟩ : ∃ er, errP pr2 sp2 dp2 f2 k2 m2 = er := ⟨_, rfl⟩
  have P1 := Lib.hid (fun W' (hb : Bts W' W.heap.size A m bs) hB he => build_any pr sr ds sp dp f kd A m c bs W.heap.size W' hb hB he hmc hm a1 a2 a3 a4 a5 a6 a7 er N l her hl hN)
  have P2 := Lib.hid (fun W' (hb : Bts W' W.heap.size A0 m2 cs) hB he => build_any pr2 sr2 ds2 sp2 dp2 f2 k2 A0 m2 c2 cs W.heap.size W' hb hB he hmc2 hm2 b1 b2 b3 b4 b5 b6 b7 er2 N2 l2 her2 hl2 hN2)
  obtain rfl : 0 = er := h0.symm.trans her
  have d2 : ((er2 : Int) != 0) = true := by rw [her2] at h2; simp; omega
  clear h0 h2 hl hl2 hN hN2 her her2
  have H0 := Lib.hid hsh
  have H1 := Lib.hid hsh2
  have hbx := (Below.refl _ (W.alloc (.cells (pkt pr sr ds sp dp f kd) 25))).alloc (Nat.le_refl _) (.cells (pkt pr2 sr2 ds2 sp2 dp2 f2 k2) 25)
  have HXp := Lib.hid ((Pk.box W pr sr ds sp dp f kd).next hbx)
  have HXq : Hid (Pk ((W.alloc (.cells (pkt pr sr ds sp dp f kd) 25)).alloc (.cells (pkt pr2 sr2 ds2 sp2 dp2 f2 k2) 25)) (W.heap.size + 1) pr2 sr2 ds2 sp2 dp2 f2 k2) := by
    have := Pk.box (W.alloc (.cells (pkt pr sr ds sp dp f kd) 25)) pr2 sr2 ds2 sp2 dp2 f2 k2
    rw [World.size_alloc] at this
    exact this
  have HE := Lib.hid ((he.alloc (.cells (pkt pr sr ds sp dp f kd) 25)).alloc (.cells (pkt pr2 sr2 ds2 sp2 dp2 f2 k2) 25))
  have HB := Lib.hid (((Below.refl _ W).alloc (Nat.le_refl _) (.cells (pkt pr sr ds sp dp f kd) 25)).trans (hbx.mono (by simp)))
  have HT := Lib.hid (hb.below HB.out)
  have HY := Lib.hid (hy.below HB.out)
  clear hsh hsh2 hb hy he hbx
  go_enter Tryd.func5, Tryd.ntmps5
  go_wp2_with fail
  obtain ⟨U, hU⟩ : ∃ U, (W.alloc (.cells (pkt pr sr ds sp dp f kd) 25)).alloc (.cells (pkt pr2 sr2 ds2 sp2 dp2 f2 k2) 25) = U := ⟨_, rfl⟩
  rw [hU] at HXp HXq HE HT HY HB ⊢
  clear hU
  have HS0 := Lib.hid (SP.start HXp.out)
  obtain ⟨s0, s1, s2, s3, s4, s5, s6, HSh⟩ := HS0.out
  go_region_held3 (fun w' => w'.cell? ⟨W.heap.size, 0, none⟩ = some (.int .u8 pr) ∧ w'.cell? ⟨W.heap.size, 1, none⟩ = some (.int .u32 sr) ∧ w'.cell? ⟨W.heap.size, 2, none⟩ = some (.int .u32 ds) ∧ w'.cell? ⟨W.heap.size, 3, none⟩ = some (.int .u16 sp) ∧ w'.cell? ⟨W.heap.size, 4, none⟩ = some (.int .u16 dp) ∧ w'.cell? ⟨W.heap.size, 5, none⟩ = some (.int .u8 f) ∧ w'.cell? ⟨W.heap.size, 6, none⟩ = some (.int .u8 kd) ∧ Hid (Pk w' (W.heap.size) pr sr ds sp dp f kd ∧ Below U.heap.size U w'))
    (first | exact SP.drew HS0.out | exact SP.next (by assumption) (by assumption) | go_keep)
    (first
      | (go_at_call 7; refine (H0.out _).mono ?_; rintro e w' ⟨rfl, rfl⟩)
      | (go_at_call 6; refine (P1.out _ (HT.out.below ((SP.bel (by assumption)).mono HB.out.size)) (Nat.le_trans HB.out.size (SP.bel (by assumption)).size) (HE.out.below (SP.bel (by assumption)) (Nat.le_refl _))).mono ?_; rintro e w1 ⟨A1, c1, rfl, HT1, HC1, hb1⟩))
  have HS1 : Hid (SP U w1 W.heap.size pr sr ds sp dp f kd) := by assumption
  clear s0 s1 s2 s3 s4 s5 s6 HSh hb1
  have HXp1 := Lib.hid HS1.out.pk
  have HXq1 := Lib.hid (HXq.out.next HS1.out.bel)
  have HE1 := Lib.hid (HE.out.below HS1.out.bel (Nat.le_refl _))
  have HY1 := Lib.hid (HY.out.below (HS1.out.bel.mono HB.out.size))
  have HB1 := Lib.hid (HB.out.trans (HS1.out.bel.mono HB.out.size))
  clear HXp HXq HE HB HT HY HS0 HS1 HC1 P1
  go_wp2_with fail
  have HS0 := Lib.hid (SP.start HXq1.out)
  obtain ⟨s0, s1, s2, s3, s4, s5, s6, HSh⟩ := HS0.out
  go_region_held3 (fun w' => w'.cell? ⟨W.heap.size + 1, 0, none⟩ = some (.int .u8 pr2) ∧ w'.cell? ⟨W.heap.size + 1, 1, none⟩ = some (.int .u32 sr2) ∧ w'.cell? ⟨W.heap.size + 1, 2, none⟩ = some (.int .u32 ds2) ∧ w'.cell? ⟨W.heap.size + 1, 3, none⟩ = some (.int .u16 sp2) ∧ w'.cell? ⟨W.heap.size + 1, 4, none⟩ = some (.int .u16 dp2) ∧ w'.cell? ⟨W.heap.size + 1, 5, none⟩ = some (.int .u8 f2) ∧ w'.cell? ⟨W.heap.size + 1, 6, none⟩ = some (.int .u8 k2) ∧ Hid (Pk w' (W.heap.size + 1) pr2 sr2 ds2 sp2 dp2 f2 k2 ∧ Below w1.heap.size w1 w'))
    (first | exact SP.drew HS0.out | exact SP.next (by assumption) (by assumption) | go_keep)
    (first
      | (go_at_call 7; refine (H1.out _).mono ?_; rintro e w' ⟨rfl, rfl⟩)
      | (go_at_call 6; refine (P2.out _ (HY1.out.below ((SP.bel (by assumption)).mono HB1.out.size)) (Nat.le_trans HB1.out.size (SP.bel (by assumption)).size) (HE1.out.below (SP.bel (by assumption)) (Nat.le_refl _))).mono ?_; rintro e w2 ⟨A2, c2, rfl, HT2, HC2, hb2⟩))
  have HS2 : Hid (SP w1 w2 (W.heap.size + 1) pr2 sr2 ds2 sp2 dp2 f2 k2) := by assumption
  clear s0 s1 s2 s3 s4 s5 s6 HSh hb2
  have HXp2 := Lib.hid (HXp1.out.next HS2.out.bel)
  have HXq2 := Lib.hid HS2.out.pk
  have HE2 := Lib.hid (HE1.out.below HS2.out.bel (Nat.le_refl _))
  have HT1 := Lib.hid (HT1.out.below HS2.out.bel)
  have hs2 := HS2.out.bel.size
  have HB2 := Lib.hid (HB1.out.trans (HS2.out.bel.mono HB1.out.size))
  clear HXp1 HXq1 HE1 HY1 HB1 HS0 HS2 HC2 P2
  go_wp2_with fail
  go_at_call 9
  refine (awake_any _ HE2.out).mono ?_
  rintro e w3 ⟨rfl, hb3⟩
  have HXp3 := Lib.hid (HXp2.out.next hb3)
  have HXq3 := Lib.hid (HXq2.out.next hb3)
  have HB3 := Lib.hid (HB2.out.trans (hb3.mono HB2.out.size))
  have hcv := Ip.text_at (c := c1) HT1.out (hb3.mono hs2)
  have hcv2 := Ip.text_at (c := c2) HT2.out hb3
  clear hb3 HXp2 HXq2 HE2 HB2 HT1 HT2 hs2
  go_wp2_with fail
  all_goals
    go_ret
    exact ⟨rfl, HB3.out⟩

set_option maxHeartbeats 4000000 in
theorem packUnlike_same (pr sr ds sp dp f kd pr2 sr2 ds2 sp2 dp2 f2 k2 : Nat) (A : Option Addr) (n c m : Nat) (bs : List UInt8) (A0 : Option Addr) (n2 c2 m2 : Nat) (cs : List UInt8) (W : World) (hmc : m ≤ c) (hm : c ≤ 9223372036854775807) (hmc2 : m2 ≤ c2) (hm2 : c2 ≤ 9223372036854775807)
    (a1 : pr < 256) (a2 : sr < 4294967296) (a3 : ds < 4294967296) (a4 : sp < 65536) (a5 : dp < 65536) (a6 : f < 256) (a7 : kd < 256)
    (b1 : pr2 < 256) (b2 : sr2 < 4294967296) (b3 : ds2 < 4294967296) (b4 : sp2 < 65536) (b5 : dp2 < 65536) (b6 : f2 < 256) (b7 : k2 < 256)
    (hsh : ∀ W, Calls Tryd.prog 7 #[.slice A n c] W fun e w' => e = .returned (.slice A m c) ∧ W = w')
    (hsh2 : ∀ W, Calls Tryd.prog 7 #[.slice A0 n2 c2] W fun e w' => e = .returned (.slice A0 m2 c2) ∧ W = w') (hb : Bts W W.heap.size A m bs) (hy : Bts W W.heap.size A0 m2 cs) (he : Tc.Env W)
    (h0 : errP pr sp dp f kd m = 0) (h2 : errP pr2 sp2 dp2 f2 k2 m2 = 0) (hq : pr = pr2 ∧ sr = sr2 ∧ ds = ds2 ∧ sp = sp2 ∧ dp = dp2 ∧ f = f2 ∧ kd = k2) :
    Calls Tryd.prog 5 #[.agg (pkt pr sr ds sp dp f kd), .agg (pkt pr2 sr2 ds2 sp2 dp2 f2 k2), .slice A n c, .slice A0 n2 c2] W fun e w' => e = .returned (.bool true) ∧ Below W.heap.size W w' := by
  obtain ⟨l, hl⟩ : ∃ l, out pr sr ds sp dp f kd bs = l := ⟨_, rfl⟩
  obtain ⟨N, hN⟩ : ∃ N, l.length = N := ⟨_, rfl⟩
  obtain ⟨er, her⟩ : ∃ er, errP pr sp dp f kd m = er := ⟨_, rfl⟩
  obtain ⟨l2, hl2⟩ : ∃ l, out pr2 sr2 ds2 sp2 dp2 f2 k2 cs = l := ⟨_, rfl⟩
  obtain ⟨N2, hN2⟩ : ∃ N, l2.length = N := ⟨_, rfl⟩
  obtain ⟨er2, her2⟩ : ∃ er, errP pr2 sp2 dp2 f2 k2 m2 = er := ⟨_, rfl⟩
  have P1 := Lib.hid (fun W' (hb : Bts W' W.heap.size A m bs) hB he => build_any pr sr ds sp dp f kd A m c bs W.heap.size W' hb hB he hmc hm a1 a2 a3 a4 a5 a6 a7 er N l her hl hN)
  have P2 := Lib.hid (fun W' (hb : Bts W' W.heap.size A0 m2 cs) hB he => build_any pr2 sr2 ds2 sp2 dp2 f2 k2 A0 m2 c2 cs W.heap.size W' hb hB he hmc2 hm2 b1 b2 b3 b4 b5 b6 b7 er2 N2 l2 her2 hl2 hN2)
  obtain ⟨rfl, rfl, rfl, rfl, rfl, rfl, rfl⟩ := hq
  obtain rfl : 0 = er := h0.symm.trans her
  obtain rfl : 0 = er2 := h2.symm.trans her2
  clear h0 h2 hl hl2 hN hN2 her her2
  have H0 := Lib.hid hsh
  have H1 := Lib.hid hsh2
  have hbx := (Below.refl _ (W.alloc (.cells (pkt pr sr ds sp dp f kd) 25))).alloc (Nat.le_refl _) (.cells (pkt pr sr ds sp dp f kd) 25)
  have HXp := Lib.hid ((Pk.box W pr sr ds sp dp f kd).next hbx)
  have HXq : Hid (Pk ((W.alloc (.cells (pkt pr sr ds sp dp f kd) 25)).alloc (.cells (pkt pr sr ds sp dp f kd) 25)) (W.heap.size + 1) pr sr ds sp dp f kd) := by
    have := Pk.box (W.alloc (.cells (pkt pr sr ds sp dp f kd) 25)) pr sr ds sp dp f kd
    rw [World.size_alloc] at this
    exact this
  have HE := Lib.hid ((he.alloc (.cells (pkt pr sr ds sp dp f kd) 25)).alloc (.cells (pkt pr sr ds sp dp f kd) 25))
  have HB := Lib.hid (((Below.refl _ W).alloc (Nat.le_refl _) (.cells (pkt pr sr ds sp dp f kd) 25)).trans (hbx.mono (by simp)))
  have HT := Lib.hid (hb.below HB.out)
  have HY := Lib.hid (hy.below HB.out)
  clear hsh hsh2 hb hy he hbx
  go_enter Tryd.func5, Tryd.ntmps5
  go_wp2_with fail
  obtain ⟨U, hU⟩ : ∃ U, (W.alloc (.cells (pkt pr sr ds sp dp f kd) 25)).alloc (.cells (pkt pr sr ds sp dp f kd) 25) = U := ⟨_, rfl⟩
  rw [hU] at HXp HXq HE HT HY HB ⊢
  clear hU
  have HS0 := Lib.hid (SP.start HXp.out)
  obtain ⟨s0, s1, s2, s3, s4, s5, s6, HSh⟩ := HS0.out
  go_region_held3 (fun w' => w'.cell? ⟨W.heap.size, 0, none⟩ = some (.int .u8 pr) ∧ w'.cell? ⟨W.heap.size, 1, none⟩ = some (.int .u32 sr) ∧ w'.cell? ⟨W.heap.size, 2, none⟩ = some (.int .u32 ds) ∧ w'.cell? ⟨W.heap.size, 3, none⟩ = some (.int .u16 sp) ∧ w'.cell? ⟨W.heap.size, 4, none⟩ = some (.int .u16 dp) ∧ w'.cell? ⟨W.heap.size, 5, none⟩ = some (.int .u8 f) ∧ w'.cell? ⟨W.heap.size, 6, none⟩ = some (.int .u8 kd) ∧ Hid (Pk w' (W.heap.size) pr sr ds sp dp f kd ∧ Below U.heap.size U w'))
    (first | exact SP.drew HS0.out | exact SP.next (by assumption) (by assumption) | go_keep)
    (first
      | (go_at_call 7; refine (H0.out _).mono ?_; rintro e w' ⟨rfl, rfl⟩)
      | (go_at_call 6; refine (P1.out _ (HT.out.below ((SP.bel (by assumption)).mono HB.out.size)) (Nat.le_trans HB.out.size (SP.bel (by assumption)).size) (HE.out.below (SP.bel (by assumption)) (Nat.le_refl _))).mono ?_; rintro e w1 ⟨A1, c1, rfl, HT1, HC1, hb1⟩))
  have HS1 : Hid (SP U w1 W.heap.size pr sr ds sp dp f kd) := by assumption
  clear s0 s1 s2 s3 s4 s5 s6 HSh hb1
  have HXp1 := Lib.hid HS1.out.pk
  have HXq1 := Lib.hid (HXq.out.next HS1.out.bel)
  have HE1 := Lib.hid (HE.out.below HS1.out.bel (Nat.le_refl _))
  have HY1 := Lib.hid (HY.out.below (HS1.out.bel.mono HB.out.size))
  have HB1 := Lib.hid (HB.out.trans (HS1.out.bel.mono HB.out.size))
  clear HXp HXq HE HB HT HY HS0 HS1 HC1 P1
  go_wp2_with fail
  have HS0 := Lib.hid (SP.start HXq1.out)
  obtain ⟨s0, s1, s2, s3, s4, s5, s6, HSh⟩ := HS0.out
  go_region_held3 (fun w' => w'.cell? ⟨W.heap.size + 1, 0, none⟩ = some (.int .u8 pr) ∧ w'.cell? ⟨W.heap.size + 1, 1, none⟩ = some (.int .u32 sr) ∧ w'.cell? ⟨W.heap.size + 1, 2, none⟩ = some (.int .u32 ds) ∧ w'.cell? ⟨W.heap.size + 1, 3, none⟩ = some (.int .u16 sp) ∧ w'.cell? ⟨W.heap.size + 1, 4, none⟩ = some (.int .u16 dp) ∧ w'.cell? ⟨W.heap.size + 1, 5, none⟩ = some (.int .u8 f) ∧ w'.cell? ⟨W.heap.size + 1, 6, none⟩ = some (.int .u8 kd) ∧ Hid (Pk w' (W.heap.size + 1) pr sr ds sp dp f kd ∧ Below w1.heap.size w1 w'))
    (first | exact SP.drew HS0.out | exact SP.next (by assumption) (by assumption) | go_keep)
    (first
      | (go_at_call 7; refine (H1.out _).mono ?_; rintro e w' ⟨rfl, rfl⟩)
      | (go_at_call 6; refine (P2.out _ (HY1.out.below ((SP.bel (by assumption)).mono HB1.out.size)) (Nat.le_trans HB1.out.size (SP.bel (by assumption)).size) (HE1.out.below (SP.bel (by assumption)) (Nat.le_refl _))).mono ?_; rintro e w2 ⟨A2, c2, rfl, HT2, HC2, hb2⟩))
  have HS2 : Hid (SP w1 w2 (W.heap.size + 1) pr sr ds sp dp f kd) := by assumption
  clear s0 s1 s2 s3 s4 s5 s6 HSh hb2
  have HXp2 := Lib.hid (HXp1.out.next HS2.out.bel)
  have HXq2 := Lib.hid HS2.out.pk
  have HE2 := Lib.hid (HE1.out.below HS2.out.bel (Nat.le_refl _))
  have HT1 := Lib.hid (HT1.out.below HS2.out.bel)
  have hs2 := HS2.out.bel.size
  have HB2 := Lib.hid (HB1.out.trans (HS2.out.bel.mono HB1.out.size))
  clear HXp1 HXq1 HE1 HY1 HB1 HS0 HS2 HC2 P2
  go_wp2_with fail
  go_at_call 9
  refine (awake_any _ HE2.out).mono ?_
  rintro e w3 ⟨rfl, hb3⟩
  have HXp3 := Lib.hid (HXp2.out.next hb3)
  have HXq3 := Lib.hid (HXq2.out.next hb3)
  have HB3 := Lib.hid (HB2.out.trans (hb3.mono HB2.out.size))
  have hcv := Ip.text_at (c := c1) HT1.out (hb3.mono hs2)
  have hcv2 := Ip.text_at (c := c2) HT2.out hb3
  clear hb3 HXp2 HXq2 HE2 HB2 HT1 HT2 hs2
  obtain ⟨x0, x1, x2, x3, x4, x5, x6⟩ := HXp3.out.cells
  obtain ⟨y0, y1, y2, y3, y4, y5, y6⟩ := HXq3.out.cells
  go_wp2_with fail
  all_goals
    go_ret
    exact ⟨rfl, HB3.out⟩

set_option maxHeartbeats 4000000 in
theorem packUnlike_unlike (pr sr ds sp dp f kd pr2 sr2 ds2 sp2 dp2 f2 k2 : Nat) (A : Option Addr) (n c m : Nat) (bs : List UInt8) (A0 : Option Addr) (n2 c2 m2 : Nat) (cs : List UInt8) (W : World) (hmc : m ≤ c) (hm : c ≤ 9223372036854775807) (hmc2 : m2 ≤ c2) (hm2 : c2 ≤ 9223372036854775807)
    (a1 : pr < 256) (a2 : sr < 4294967296) (a3 : ds < 4294967296) (a4 : sp < 65536) (a5 : dp < 65536) (a6 : f < 256) (a7 : kd < 256)
    (b1 : pr2 < 256) (b2 : sr2 < 4294967296) (b3 : ds2 < 4294967296) (b4 : sp2 < 65536) (b5 : dp2 < 65536) (b6 : f2 < 256) (b7 : k2 < 256)
    (hsh : ∀ W, Calls Tryd.prog 7 #[.slice A n c] W fun e w' => e = .returned (.slice A m c) ∧ W = w')
    (hsh2 : ∀ W, Calls Tryd.prog 7 #[.slice A0 n2 c2] W fun e w' => e = .returned (.slice A0 m2 c2) ∧ W = w') (hb : Bts W W.heap.size A m bs) (hy : Bts W W.heap.size A0 m2 cs) (he : Tc.Env W)
    (h0 : errP pr sp dp f kd m = 0) (h2 : errP pr2 sp2 dp2 f2 k2 m2 = 0) (hq : ¬ (pr = pr2 ∧ sr = sr2 ∧ ds = ds2 ∧ sp = sp2 ∧ dp = dp2 ∧ f = f2 ∧ kd = k2)) :
    Calls Tryd.prog 5 #[.agg (pkt pr sr ds sp dp f kd), .agg (pkt pr2 sr2 ds2 sp2 dp2 f2 k2), .slice A n c, .slice A0 n2 c2] W fun e w' => e = .returned (.bool true) ∧ Below W.heap.size W w' := by
  obtain ⟨l, hl⟩ : ∃ l, out pr sr ds sp dp f kd bs = l := ⟨_, rfl⟩
  obtain ⟨N, hN⟩ : ∃ N, l.length = N := ⟨_, rfl⟩
  obtain ⟨er, her⟩ : ∃ er, errP pr sp dp f kd m = er := ⟨_, rfl⟩
  obtain ⟨l2, hl2⟩ : ∃ l, out pr2 sr2 ds2 sp2 dp2 f2 k2 cs = l := ⟨_, rfl⟩
  obtain ⟨N2, hN2⟩ : ∃ N, l2.length = N := ⟨_, rfl⟩
  obtain ⟨er2, her2⟩ : ∃ er, errP pr2 sp2 dp2 f2 k2 m2 = er := ⟨_, rfl⟩
  have P1 := Lib.hid (fun W' (hb : Bts W' W.heap.size A m bs) hB he => build_any pr sr ds sp dp f kd A m c bs W.heap.size W' hb hB he hmc hm a1 a2 a3 a4 a5 a6 a7 er N l her hl hN)
  have P2 := Lib.hid (fun W' (hb : Bts W' W.heap.size A0 m2 cs) hB he => build_any pr2 sr2 ds2 sp2 dp2 f2 k2 A0 m2 c2 cs W.heap.size W' hb hB he hmc2 hm2 b1 b2 b3 b4 b5 b6 b7 er2 N2 l2 her2 hl2 hN2)
  obtain rfl : 0 = er := h0.symm.trans her
  obtain rfl : 0 = er2 := h2.symm.trans her2
  have hne : l ≠ l2 := by
    intro h
    have hx := hb.len
    have hz := hy.len
    rw [← hl, ← hl2, PacM.out_ok (by rw [hx]; exact h0), PacM.out_ok (by rw [hz]; exact h2)] at h
    exact hq (PacM.unlike (by rw [hx]; exact h0) (by rw [hz]; exact h2) a1 a2 a3 a4 a5 a7 b1 b2 b3 b4 b5 b7 h)
  have dt := text_ne hne
  have dq := pk_ne hq
  clear h0 h2 hl hl2 hN hN2 her her2 hne hq
  have H0 := Lib.hid hsh
  have H1 := Lib.hid hsh2
  have hbx := (Below.refl _ (W.alloc (.cells (pkt pr sr ds sp dp f kd) 25))).alloc (Nat.le_refl _) (.cells (pkt pr2 sr2 ds2 sp2 dp2 f2 k2) 25)
  have HXp := Lib.hid ((Pk.box W pr sr ds sp dp f kd).next hbx)
  have HXq : Hid (Pk ((W.alloc (.cells (pkt pr sr ds sp dp f kd) 25)).alloc (.cells (pkt pr2 sr2 ds2 sp2 dp2 f2 k2) 25)) (W.heap.size + 1) pr2 sr2 ds2 sp2 dp2 f2 k2) := by
    have := Pk.box (W.alloc (.cells (pkt pr sr ds sp dp f kd) 25)) pr2 sr2 ds2 sp2 dp2 f2 k2
    rw [World.size_alloc] at this
    exact this
  have HE := Lib.hid ((he.alloc (.cells (pkt pr sr ds sp dp f kd) 25)).alloc (.cells (pkt pr2 sr2 ds2 sp2 dp2 f2 k2) 25))
  have HB := Lib.hid (((Below.refl _ W).alloc (Nat.le_refl _) (.cells (pkt pr sr ds sp dp f kd) 25)).trans (hbx.mono (by simp)))
  have HT := Lib.hid (hb.below HB.out)
  have HY := Lib.hid (hy.below HB.out)
  clear hsh hsh2 hb hy he hbx
  go_enter Tryd.func5, Tryd.ntmps5
  go_wp2_with fail
  obtain ⟨U, hU⟩ : ∃ U, (W.alloc (.cells (pkt pr sr ds sp dp f kd) 25)).alloc (.cells (pkt pr2 sr2 ds2 sp2 dp2 f2 k2) 25) = U := ⟨_, rfl⟩
  rw [hU] at HXp HXq HE HT HY HB ⊢
  clear hU
  have HS0 := Lib.hid (SP.start HXp.out)
  obtain ⟨s0, s1, s2, s3, s4, s5, s6, HSh⟩ := HS0.out
  go_region_held3 (fun w' => w'.cell? ⟨W.heap.size, 0, none⟩ = some (.int .u8 pr) ∧ w'.cell? ⟨W.heap.size, 1, none⟩ = some (.int .u32 sr) ∧ w'.cell? ⟨W.heap.size, 2, none⟩ = some (.int .u32 ds) ∧ w'.cell? ⟨W.heap.size, 3, none⟩ = some (.int .u16 sp) ∧ w'.cell? ⟨W.heap.size, 4, none⟩ = some (.int .u16 dp) ∧ w'.cell? ⟨W.heap.size, 5, none⟩ = some (.int .u8 f) ∧ w'.cell? ⟨W.heap.size, 6, none⟩ = some (.int .u8 kd) ∧ Hid (Pk w' (W.heap.size) pr sr ds sp dp f kd ∧ Below U.heap.size U w'))
    (first | exact SP.drew HS0.out | exact SP.next (by assumption) (by assumption) | go_keep)
    (first
      | (go_at_call 7; refine (H0.out _).mono ?_; rintro e w' ⟨rfl, rfl⟩)
      | (go_at_call 6; refine (P1.out _ (HT.out.below ((SP.bel (by assumption)).mono HB.out.size)) (Nat.le_trans HB.out.size (SP.bel (by assumption)).size) (HE.out.below (SP.bel (by assumption)) (Nat.le_refl _))).mono ?_; rintro e w1 ⟨A1, c1, rfl, HT1, HC1, hb1⟩))
  have HS1 : Hid (SP U w1 W.heap.size pr sr ds sp dp f kd) := by assumption
  clear s0 s1 s2 s3 s4 s5 s6 HSh hb1
  have HXp1 := Lib.hid HS1.out.pk
  have HXq1 := Lib.hid (HXq.out.next HS1.out.bel)
  have HE1 := Lib.hid (HE.out.below HS1.out.bel (Nat.le_refl _))
  have HY1 := Lib.hid (HY.out.below (HS1.out.bel.mono HB.out.size))
  have HB1 := Lib.hid (HB.out.trans (HS1.out.bel.mono HB.out.size))
  clear HXp HXq HE HB HT HY HS0 HS1 HC1 P1
  go_wp2_with fail
  have HS0 := Lib.hid (SP.start HXq1.out)
  obtain ⟨s0, s1, s2, s3, s4, s5, s6, HSh⟩ := HS0.out
  go_region_held3 (fun w' => w'.cell? ⟨W.heap.size + 1, 0, none⟩ = some (.int .u8 pr2) ∧ w'.cell? ⟨W.heap.size + 1, 1, none⟩ = some (.int .u32 sr2) ∧ w'.cell? ⟨W.heap.size + 1, 2, none⟩ = some (.int .u32 ds2) ∧ w'.cell? ⟨W.heap.size + 1, 3, none⟩ = some (.int .u16 sp2) ∧ w'.cell? ⟨W.heap.size + 1, 4, none⟩ = some (.int .u16 dp2) ∧ w'.cell? ⟨W.heap.size + 1, 5, none⟩ = some (.int .u8 f2) ∧ w'.cell? ⟨W.heap.size + 1, 6, none⟩ = some (.int .u8 k2) ∧ Hid (Pk w' (W.heap.size + 1) pr2 sr2 ds2 sp2 dp2 f2 k2 ∧ Below w1.heap.size w1 w'))
    (first | exact SP.drew HS0.out | exact SP.next (by assumption) (by assumption) | go_keep)
    (first
      | (go_at_call 7; refine (H1.out _).mono ?_; rintro e w' ⟨rfl, rfl⟩)
      | (go_at_call 6; refine (P2.out _ (HY1.out.below ((SP.bel (by assumption)).mono HB1.out.size)) (Nat.le_trans HB1.out.size (SP.bel (by assumption)).size) (HE1.out.below (SP.bel (by assumption)) (Nat.le_refl _))).mono ?_; rintro e w2 ⟨A2, c2, rfl, HT2, HC2, hb2⟩))
  have HS2 : Hid (SP w1 w2 (W.heap.size + 1) pr2 sr2 ds2 sp2 dp2 f2 k2) := by assumption
  clear s0 s1 s2 s3 s4 s5 s6 HSh hb2
  have HXp2 := Lib.hid (HXp1.out.next HS2.out.bel)
  have HXq2 := Lib.hid HS2.out.pk
  have HE2 := Lib.hid (HE1.out.below HS2.out.bel (Nat.le_refl _))
  have HT1 := Lib.hid (HT1.out.below HS2.out.bel)
  have hs2 := HS2.out.bel.size
  have HB2 := Lib.hid (HB1.out.trans (HS2.out.bel.mono HB1.out.size))
  clear HXp1 HXq1 HE1 HY1 HB1 HS0 HS2 HC2 P2
  go_wp2_with fail
  go_at_call 9
  refine (awake_any _ HE2.out).mono ?_
  rintro e w3 ⟨rfl, hb3⟩
  have HXp3 := Lib.hid (HXp2.out.next hb3)
  have HXq3 := Lib.hid (HXq2.out.next hb3)
  have HB3 := Lib.hid (HB2.out.trans (hb3.mono HB2.out.size))
  have hcv := Ip.text_at (c := c1) HT1.out (hb3.mono hs2)
  have hcv2 := Ip.text_at (c := c2) HT2.out hb3
  clear hb3 HXp2 HXq2 HE2 HB2 HT1 HT2 hs2
  obtain ⟨x0, x1, x2, x3, x4, x5, x6⟩ := HXp3.out.cells
  obtain ⟨y0, y1, y2, y3, y4, y5, y6⟩ := HXq3.out.cells
  go_wp2_with fail
  all_goals
    go_ret
    exact ⟨rfl, HB3.out⟩

theorem packUnlike_walk (p0 p1 p2 p3 p4 p5 p6 q0 q1 q2 q3 q4 q5 q6 : Int) (a1 : Option Addr) (n1 c1 : Nat) (l1 : List UInt8) (a2 : Option Addr) (n2 c2 : Nat) (l2 : List UInt8) (w : World) (he : Tc.Env w)
    (hp : (0 ≤ p0 ∧ p0 ≤ 255) ∧ (0 ≤ p1 ∧ p1 ≤ 4294967295) ∧ (0 ≤ p2 ∧ p2 ≤ 4294967295) ∧ (0 ≤ p3 ∧ p3 ≤ 65535) ∧ (0 ≤ p4 ∧ p4 ≤ 65535) ∧ (0 ≤ p5 ∧ p5 ≤ 255) ∧ (0 ≤ p6 ∧ p6 ≤ 255)) (hq : (0 ≤ q0 ∧ q0 ≤ 255) ∧ (0 ≤ q1 ∧ q1 ≤ 4294967295) ∧ (0 ≤ q2 ∧ q2 ≤ 4294967295) ∧ (0 ≤ q3 ∧ q3 ≤ 65535) ∧ (0 ≤ q4 ∧ q4 ≤ 65535) ∧ (0 ≤ q5 ∧ q5 ≤ 255) ∧ (0 ≤ q6 ∧ q6 ≤ 255))
    (w1 : Bts w w.heap.size a1 n1 l1) (hc1 : n1 ≤ c1) (hm1 : c1 ≤ maxLen) (w2 : Bts w w.heap.size a2 n2 l2) (hc2 : n2 ≤ c2) (hm2 : c2 ≤ maxLen) :
    Calls Tryd.prog 5 #[.agg (pkt p0 p1 p2 p3 p4 p5 p6), .agg (pkt q0 q1 q2 q3 q4 q5 q6), .slice a1 n1 c1, .slice a2 n2 c2] w fun e w' => e = .returned (.bool true) ∧ Below w.heap.size w w' := by
  unfold maxLen at hm1 hm2
  obtain ⟨h0, h1, h2, h3, h4, h5, h6⟩ := hp
  obtain ⟨g0, g1, g2, g3, g4, g5, g6⟩ := hq
  obtain ⟨pr, rfl⟩ := Int.eq_ofNat_of_zero_le h0.1
  obtain ⟨sr, rfl⟩ := Int.eq_ofNat_of_zero_le h1.1
  obtain ⟨ds, rfl⟩ := Int.eq_ofNat_of_zero_le h2.1
  obtain ⟨sp, rfl⟩ := Int.eq_ofNat_of_zero_le h3.1
  obtain ⟨dp, rfl⟩ := Int.eq_ofNat_of_zero_le h4.1
  obtain ⟨f, rfl⟩ := Int.eq_ofNat_of_zero_le h5.1
  obtain ⟨kd, rfl⟩ := Int.eq_ofNat_of_zero_le h6.1
  obtain ⟨pr2, rfl⟩ := Int.eq_ofNat_of_zero_le g0.1
  obtain ⟨sr2, rfl⟩ := Int.eq_ofNat_of_zero_le g1.1
  obtain ⟨ds2, rfl⟩ := Int.eq_ofNat_of_zero_le g2.1
  obtain ⟨sp2, rfl⟩ := Int.eq_ofNat_of_zero_le g3.1
  obtain ⟨dp2, rfl⟩ := Int.eq_ofNat_of_zero_le g4.1
  obtain ⟨f2, rfl⟩ := Int.eq_ofNat_of_zero_le g5.1
  obtain ⟨k2, rfl⟩ := Int.eq_ofNat_of_zero_le g6.1
  have hb := w1.take 1600
  have hy := w2.take 1600
  have C1 := fun W => short_any a1 n1 c1 hc1 (by omega) W
  have C2 := fun W => short_any a2 n2 c2 hc2 (by omega) W
  by_cases e1 : errP pr sp dp f kd (min n1 1600) = 0
  · by_cases e2 : errP pr2 sp2 dp2 f2 k2 (min n2 1600) = 0
    · by_cases hq : pr = pr2 ∧ sr = sr2 ∧ ds = ds2 ∧ sp = sp2 ∧ dp = dp2 ∧ f = f2 ∧ kd = k2
      · exact packUnlike_same pr sr ds sp dp f kd pr2 sr2 ds2 sp2 dp2 f2 k2 a1 n1 c1 _ _ a2 n2 c2 _ _ w (by omega) (by omega) (by omega) (by omega) (by omega) (by omega) (by omega) (by omega) (by omega) (by omega) (by omega) (by omega) (by omega) (by omega) (by omega) (by omega) (by omega) (by omega) C1 C2 hb hy he e1 e2 hq
      · exact packUnlike_unlike pr sr ds sp dp f kd pr2 sr2 ds2 sp2 dp2 f2 k2 a1 n1 c1 _ _ a2 n2 c2 _ _ w (by omega) (by omega) (by omega) (by omega) (by omega) (by omega) (by omega) (by omega) (by omega) (by omega) (by omega) (by omega) (by omega) (by omega) (by omega) (by omega) (by omega) (by omega) C1 C2 hb hy he e1 e2 hq
    · exact packUnlike_two pr sr ds sp dp f kd pr2 sr2 ds2 sp2 dp2 f2 k2 a1 n1 c1 _ _ a2 n2 c2 _ _ w (by omega) (by omega) (by omega) (by omega) (by omega) (by omega) (by omega) (by omega) (by omega) (by omega) (by omega) (by omega) (by omega) (by omega) (by omega) (by omega) (by omega) (by omega) C1 C2 hb hy he e1 e2
  · exact packUnlike_one pr sr ds sp dp f kd pr2 sr2 ds2 sp2 dp2 f2 k2 a1 n1 c1 _ _ a2 n2 c2 _ _ w (by omega) (by omega) (by omega) (by omega) (by omega) (by omega) (by omega) (by omega) (by omega) (by omega) (by omega) (by omega) (by omega) (by omega) (by omega) (by omega) (by omega) (by omega) C1 C2 hb hy he e1

end Pa
end Go.Proofs.YtapcjjhbdhkhhaaDoor
