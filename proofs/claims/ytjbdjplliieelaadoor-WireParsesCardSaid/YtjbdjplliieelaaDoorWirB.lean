/- Layer 8: the contract of the reference's Parse. -/
import Derived.Test.YtjbdjplliieelaaDoorWirA
import Derived.Test.YtjbdjplliieelaaDoorIpC
import Derived.Test.YtjbdjplliieelaaDoorUdpC
import Derived.Test.YtjbdjplliieelaaDoorIcmpC
set_option linter.unusedVariables false
set_option linter.unusedSimpArgs false
namespace Go.Proofs.YtjbdjplliieelaaDoor
open Go.ChangeShapes Go.WideShapes Go.ChangeAt Go.RowKit Go.Mtl
namespace Wi
open IpM (word four hs tl tl_lt word_lt four_lt errC errN body)
open TcpM (errT)
open UdpM (errU)
open IcM (errI)
open WirM (errW spN dpN flN kdN)
open Ip (Hd)


theorem refParse_ipbad (A : Option Addr) (n c : Nat) (bs : List UInt8) (B : Nat) (W : World) (hb : Bts W B A n bs) (hB : B ≤ W.heap.size) (hc : n ≤ c) (hm : c ≤ 9223372036854775807) (he : errN bs ≠ 0) :
    Calls Tryd.prog 8 #[.slice A n c] W fun e w' => e = .returned (wV bs) ∧ Below W.heap.size W w' := by
  have HF := Lib.hid (wV_err (WirM.errW_ip he) he)
  have HB := Lib.hid (hb.alloc hB (.cells (pkt 0 0 0 0 0 0 0) 26))
  have HZ := Lib.hid (Pk.box W 0 0 0 0 0 0 0)
  have HBel := Lib.hid ((Below.refl _ W).alloc (Nat.le_refl _) (.cells (pkt 0 0 0 0 0 0 0) 26))
  have HP := Lib.hid (fun W' (hb : Bts W' B A n bs) hB => Ip.refParse_bad A n c bs B W' hb hB hc hm he)
  have d : ((errN bs : Int) != 0) = true := by simp; omega
  generalize errN bs = er at HF HP d
  clear hb he
  go_enter Tryd.func8, Tryd.ntmps8
  go_wp2_with fail
  go_at_call 14
  refine (HP.out _ HB.out (by simp; omega)).mono ?_
  rintro e w1 ⟨rfl, hb1⟩
  have hbx := (Below.refl _ w1).alloc (Nat.le_refl _) (.cells (Ip.cells7 0 0 0 0 0 0 0) 37)
  have HX := Lib.hid (Hd.box w1 0 0 0 0 0 0 0)
  have HZ1 := Lib.hid ((HZ.out.next hb1).next hbx)
  have hbel1 := HBel.out.trans (hb1.mono (by simp))
  have HBel1 := Lib.hid (hbel1.trans (hbx.mono hbel1.size))
  clear hb1 hbx hbel1
  obtain ⟨x0, x1, x2, x3, x4, x5, x6⟩ := HX.out.cells
  obtain ⟨g0, g1, g2, g3, g4, g5, g6⟩ := HX.out.frozen
  obtain ⟨z0, z1, z2, z3, z4, z5, z6⟩ := HZ1.out.cells
  obtain ⟨f0, f1, f2, f3, f4, f5, f6⟩ := HZ1.out.frozen
  go_wp2_with fail
  obtain ⟨r0, r1, r2, r3, r4, r5, r6⟩ := (HZ1.out.store 0 0 0 0 0 0 0).cells
  exact bodyPost_ret (v := .tuple #[.agg (pkt 0 0 0 0 0 0 0), .int .i64 (er : Int)]) (by simp [results, Tryd.results8, go_sem, r0, r1, r2, r3, r4, r5, r6]) rfl ⟨ret_v HF.out.symm, below_storeP HBel1.out (Nat.le_refl _) _ _ _ _ _ _ _⟩

set_option maxHeartbeats 2000000 in
theorem refParse_tcpOk (A : Option Addr) (n c : Nat) (bs : List UInt8) (B : Nat) (W : World) (hb : Bts W B A n bs) (hB : B ≤ W.heap.size) (hc : n ≤ c) (hm : c ≤ 9223372036854775807) (h0 : errN bs = 0) (h9 : byt bs 9 = 6) (h1 : errT (four bs 12) (four bs 16) (body bs) = 0) :
    Calls Tryd.prog 8 #[.slice A n c] W fun e w' => e = .returned (wV bs) ∧ Below W.heap.size W w' := by
  have HF := Lib.hid (wV_tcp h0 h9 h1)
  obtain ⟨m, hm1⟩ : ∃ m, tl bs - hs bs = m := ⟨_, rfl⟩
  have hm2 : m ≤ 1000000 := by have := tl_lt bs; omega
  have HB := Lib.hid (hb.alloc hB (.cells (pkt 0 0 0 0 0 0 0) 26))
  have HZ := Lib.hid (Pk.box W 0 0 0 0 0 0 0)
  have HBel := Lib.hid ((Below.refl _ W).alloc (Nat.le_refl _) (.cells (pkt 0 0 0 0 0 0 0) 26))
  have HP := Lib.hid (fun W' (hb : Bts W' B A n bs) hB => Ip.refParse_ok A n c bs B W' hb hB hc hm h0)
  unfold Ip.Parsed at HP
  rw [hm1] at HP
  have hs12 := four_lt bs 12
  have hs16 := four_lt bs 16
  have P2 := Lib.hid (fun W' A1 c1 B2 (hb : Bts W' B2 A1 m (body bs)) hB hc hm => Tc.refParse_any (four bs 12) (four bs 16) A1 m c1 (body bs) B2 W' hb hB hc hm hm2 hs12 hs16)
  rw [h1] at P2
  simp only [Tc.pV_ok (body bs) rfl] at P2
  clear hb h0 hm1
  go_enter Tryd.func8, Tryd.ntmps8
  go_wp2_with fail
  go_at_call 14
  refine (HP.out _ HB.out (by simp; omega)).mono ?_
  rintro e w1 ⟨A1, c1, rfl, ht1, hcc, hb1⟩
  have hbx := (Below.refl _ w1).alloc (Nat.le_refl _) (.cells (Ip.cells7 6 (four bs 12) (four bs 16) (hs bs) (tl bs) (byt bs 8) (word bs 4)) 37)
  have HX := Lib.hid (Hd.box w1 0 0 0 0 0 0 0)
  have HY := Lib.hid (Hd.box w1 6 (four bs 12) (four bs 16) (hs bs) (tl bs) (byt bs 8) (word bs 4))
  have HT := Lib.hid (ht1.below hbx)
  have HZ1 := Lib.hid ((HZ.out.next hb1).next hbx)
  have hbel1 := HBel.out.trans (hb1.mono (by simp))
  have HBel1 := Lib.hid (hbel1.trans (hbx.mono hbel1.size))
  clear hb1 hbx hbel1 ht1
  obtain ⟨x0, x1, x2, x3, x4, x5, x6⟩ := HX.out.cells
  obtain ⟨g0, g1, g2, g3, g4, g5, g6⟩ := HX.out.frozen
  obtain ⟨y0, y1, y2, y3, y4, y5, y6⟩ := HY.out.cells
  go_wp2_with fail
  go_at_call 15
  have HQ := Lib.hid (Pk.box (w1.alloc (.cells (Ip.cells7 6 (four bs 12) (four bs 16) (hs bs) (tl bs) (byt bs 8) (word bs 4)) 37)) 6 (four bs 12) (four bs 16) 0 0 0 0)
  have hbq := (Below.refl _ (w1.alloc (.cells (Ip.cells7 6 (four bs 12) (four bs 16) (hs bs) (tl bs) (byt bs 8) (word bs 4)) 37))).alloc (Nat.le_refl _) (.cells (pkt 6 (four bs 12) (four bs 16) 0 0 0 0) 26)
  have HZ2 := Lib.hid (HZ1.out.next hbq)
  have HBel2 := Lib.hid (HBel1.out.trans (hbq.mono HBel1.out.size))
  have hlt := HZ1.out.lt
  rw [World.size_alloc] at HQ hlt
  have HT2 := Lib.hid (HT.out.below (hbq.mono (by simp)))
  clear HZ1 HT HBel1 hbq x0 x1 x2 x3 x4 x5 x6 g0 g1 g2 g3 g4 g5 g6 y0 y1 y2 y3 y4 y5 y6
  refine (P2.out _ _ _ _ HT2.out (by simp; omega) hcc.1 hcc.2).mono ?_
  rintro e w2 ⟨rfl, hb2⟩
  have HZ3 := Lib.hid (HZ2.out.next hb2)
  have HQ3 := Lib.hid (HQ.out.next hb2)
  have HBel3 := Lib.hid (HBel2.out.trans (hb2.mono HBel2.out.size))
  clear hb2 HZ2 HQ HBel2 HT2
  obtain ⟨q0, q1, q2, q3, q4, q5, q6⟩ := HQ3.out.cells
  obtain ⟨k0, k1, k2, k3, k4, k5, k6⟩ := HQ3.out.frozen
  obtain ⟨z0, z1, z2, z3, z4, z5, z6⟩ := HZ3.out.cells
  obtain ⟨f0, f1, f2, f3, f4, f5, f6⟩ := HZ3.out.frozen
  have hne : W.heap.size ≠ w1.heap.size + 1 := by omega
  have hne' : w1.heap.size + 1 ≠ W.heap.size := by omega
  have hle : W.heap.size ≤ w1.heap.size + 1 := by omega
  go_wp2_with fail
  obtain ⟨r0, r1, r2, r3, r4, r5, r6⟩ := ((((HZ3.out.other (w1.heap.size + 1) 3 hne (.int .u16 (word (body bs) 0 : Int))).other (w1.heap.size + 1) 4 hne (.int .u16 (word (body bs) 2 : Int))).other (w1.heap.size + 1) 5 hne (.int .u8 ((byt (body bs) 13 : Int) % 64))).store 6 (four bs 12) (four bs 16) (word (body bs) 0) (word (body bs) 2) ((byt (body bs) 13 : Int) % 64) 0).cells
  exact bodyPost_ret (v := .tuple #[.agg (pkt 6 (four bs 12) (four bs 16) (word (body bs) 0) (word (body bs) 2) ((byt (body bs) 13 : Int) % 64) 0), .int .i64 0]) (by simp [results, Tryd.results8, go_sem, r0, r1, r2, r3, r4, r5, r6]) rfl ⟨ret_v HF.out.symm, below_storeP (((HBel3.out.setCell (p := ⟨w1.heap.size + 1, 3, none⟩) hle (.int .u16 (word (body bs) 0 : Int))).setCell (p := ⟨w1.heap.size + 1, 4, none⟩) hle (.int .u16 (word (body bs) 2 : Int))).setCell (p := ⟨w1.heap.size + 1, 5, none⟩) hle (.int .u8 ((byt (body bs) 13 : Int) % 64))) (Nat.le_refl _) _ _ _ _ _ _ _⟩

set_option maxHeartbeats 2000000 in
theorem refParse_tcpBad (A : Option Addr) (n c : Nat) (bs : List UInt8) (B : Nat) (W : World) (hb : Bts W B A n bs) (hB : B ≤ W.heap.size) (hc : n ≤ c) (hm : c ≤ 9223372036854775807) (h0 : errN bs = 0) (h9 : byt bs 9 = 6) (h1 : errT (four bs 12) (four bs 16) (body bs) ≠ 0) :
    Calls Tryd.prog 8 #[.slice A n c] W fun e w' => e = .returned (wV bs) ∧ Below W.heap.size W w' := by
  have HF := Lib.hid (wV_err (WirM.errW_tcp h0 h9) h1)
  obtain ⟨m, hm1⟩ : ∃ m, tl bs - hs bs = m := ⟨_, rfl⟩
  have hm2 : m ≤ 1000000 := by have := tl_lt bs; omega
  have HB := Lib.hid (hb.alloc hB (.cells (pkt 0 0 0 0 0 0 0) 26))
  have HZ := Lib.hid (Pk.box W 0 0 0 0 0 0 0)
  have HBel := Lib.hid ((Below.refl _ W).alloc (Nat.le_refl _) (.cells (pkt 0 0 0 0 0 0 0) 26))
  have HP := Lib.hid (fun W' (hb : Bts W' B A n bs) hB => Ip.refParse_ok A n c bs B W' hb hB hc hm h0)
  unfold Ip.Parsed at HP
  rw [hm1] at HP
  have hs12 := four_lt bs 12
  have hs16 := four_lt bs 16
  have P2 := Lib.hid (fun W' A1 c1 B2 (hb : Bts W' B2 A1 m (body bs)) hB hc hm => Tc.refParse_any (four bs 12) (four bs 16) A1 m c1 (body bs) B2 W' hb hB hc hm hm2 hs12 hs16)
  simp only [Tc.pV_bad (body bs) h1] at P2
  have d : ((errT (four bs 12) (four bs 16) (body bs) : Int) != 0) = true := by simp; omega
  generalize errT (four bs 12) (four bs 16) (body bs) = er at HF P2 d
  clear hb h0 hm1
  go_enter Tryd.func8, Tryd.ntmps8
  go_wp2_with fail
  go_at_call 14
  refine (HP.out _ HB.out (by simp; omega)).mono ?_
  rintro e w1 ⟨A1, c1, rfl, ht1, hcc, hb1⟩
  have hbx := (Below.refl _ w1).alloc (Nat.le_refl _) (.cells (Ip.cells7 6 (four bs 12) (four bs 16) (hs bs) (tl bs) (byt bs 8) (word bs 4)) 37)
  have HX := Lib.hid (Hd.box w1 0 0 0 0 0 0 0)
  have HY := Lib.hid (Hd.box w1 6 (four bs 12) (four bs 16) (hs bs) (tl bs) (byt bs 8) (word bs 4))
  have HT := Lib.hid (ht1.below hbx)
  have HZ1 := Lib.hid ((HZ.out.next hb1).next hbx)
  have hbel1 := HBel.out.trans (hb1.mono (by simp))
  have HBel1 := Lib.hid (hbel1.trans (hbx.mono hbel1.size))
  clear hb1 hbx hbel1 ht1
  obtain ⟨x0, x1, x2, x3, x4, x5, x6⟩ := HX.out.cells
  obtain ⟨g0, g1, g2, g3, g4, g5, g6⟩ := HX.out.frozen
  obtain ⟨y0, y1, y2, y3, y4, y5, y6⟩ := HY.out.cells
  go_wp2_with fail
  go_at_call 15
  have HQ := Lib.hid (Pk.box (w1.alloc (.cells (Ip.cells7 6 (four bs 12) (four bs 16) (hs bs) (tl bs) (byt bs 8) (word bs 4)) 37)) 6 (four bs 12) (four bs 16) 0 0 0 0)
  have hbq := (Below.refl _ (w1.alloc (.cells (Ip.cells7 6 (four bs 12) (four bs 16) (hs bs) (tl bs) (byt bs 8) (word bs 4)) 37))).alloc (Nat.le_refl _) (.cells (pkt 6 (four bs 12) (four bs 16) 0 0 0 0) 26)
  have HZ2 := Lib.hid (HZ1.out.next hbq)
  have HBel2 := Lib.hid (HBel1.out.trans (hbq.mono HBel1.out.size))
  have hlt := HZ1.out.lt
  rw [World.size_alloc] at HQ hlt
  have HT2 := Lib.hid (HT.out.below (hbq.mono (by simp)))
  clear HZ1 HT HBel1 hbq x0 x1 x2 x3 x4 x5 x6 g0 g1 g2 g3 g4 g5 g6 y0 y1 y2 y3 y4 y5 y6
  refine (P2.out _ _ _ _ HT2.out (by simp; omega) hcc.1 hcc.2).mono ?_
  rintro e w2 ⟨rfl, hb2⟩
  have HZ3 := Lib.hid (HZ2.out.next hb2)
  have HQ3 := Lib.hid (HQ.out.next hb2)
  have HBel3 := Lib.hid (HBel2.out.trans (hb2.mono HBel2.out.size))
  clear hb2 HZ2 HQ HBel2 HT2
  obtain ⟨q0, q1, q2, q3, q4, q5, q6⟩ := HQ3.out.cells
  obtain ⟨k0, k1, k2, k3, k4, k5, k6⟩ := HQ3.out.frozen
  obtain ⟨z0, z1, z2, z3, z4, z5, z6⟩ := HZ3.out.cells
  obtain ⟨f0, f1, f2, f3, f4, f5, f6⟩ := HZ3.out.frozen
  have hne : W.heap.size ≠ w1.heap.size + 1 := by omega
  have hne' : w1.heap.size + 1 ≠ W.heap.size := by omega
  have hle : W.heap.size ≤ w1.heap.size + 1 := by omega
  go_wp2_with fail
  obtain ⟨r0, r1, r2, r3, r4, r5, r6⟩ := ((((HZ3.out.other (w1.heap.size + 1) 3 hne (.int .u16 0)).other (w1.heap.size + 1) 4 hne (.int .u16 0)).other (w1.heap.size + 1) 5 hne (.int .u8 0)).store 0 0 0 0 0 0 0).cells
  exact bodyPost_ret (v := .tuple #[.agg (pkt 0 0 0 0 0 0 0), .int .i64 (er : Int)]) (by simp [results, Tryd.results8, go_sem, r0, r1, r2, r3, r4, r5, r6]) rfl ⟨ret_v HF.out.symm, below_storeP (((HBel3.out.setCell (p := ⟨w1.heap.size + 1, 3, none⟩) hle (.int .u16 0)).setCell (p := ⟨w1.heap.size + 1, 4, none⟩) hle (.int .u16 0)).setCell (p := ⟨w1.heap.size + 1, 5, none⟩) hle (.int .u8 0)) (Nat.le_refl _) _ _ _ _ _ _ _⟩

set_option maxHeartbeats 2000000 in
theorem refParse_udpOk (A : Option Addr) (n c : Nat) (bs : List UInt8) (B : Nat) (W : World) (hb : Bts W B A n bs) (hB : B ≤ W.heap.size) (hc : n ≤ c) (hm : c ≤ 9223372036854775807) (h0 : errN bs = 0) (h9 : byt bs 9 = 17) (h1 : errU (four bs 12) (four bs 16) (body bs) = 0) :
    Calls Tryd.prog 8 #[.slice A n c] W fun e w' => e = .returned (wV bs) ∧ Below W.heap.size W w' := by
  have HF := Lib.hid (wV_udp h0 h9 h1)
  obtain ⟨m, hm1⟩ : ∃ m, tl bs - hs bs = m := ⟨_, rfl⟩
  have hm2 : m ≤ 1000000 := by have := tl_lt bs; omega
  have HB := Lib.hid (hb.alloc hB (.cells (pkt 0 0 0 0 0 0 0) 26))
  have HZ := Lib.hid (Pk.box W 0 0 0 0 0 0 0)
  have HBel := Lib.hid ((Below.refl _ W).alloc (Nat.le_refl _) (.cells (pkt 0 0 0 0 0 0 0) 26))
  have HP := Lib.hid (fun W' (hb : Bts W' B A n bs) hB => Ip.refParse_ok A n c bs B W' hb hB hc hm h0)
  unfold Ip.Parsed at HP
  rw [hm1] at HP
  have hs12 := four_lt bs 12
  have hs16 := four_lt bs 16
  have P2 := Lib.hid (fun W' A1 c1 B2 (hb : Bts W' B2 A1 m (body bs)) hB hc hm => Ud.refParse_any (four bs 12) (four bs 16) A1 m c1 (body bs) B2 W' hb hB hc hm hm2 hs12 hs16)
  rw [h1] at P2
  simp only [Ud.pV_ok (body bs) rfl] at P2
  clear hb h0 hm1
  go_enter Tryd.func8, Tryd.ntmps8
  go_wp2_with fail
  go_at_call 14
  refine (HP.out _ HB.out (by simp; omega)).mono ?_
  rintro e w1 ⟨A1, c1, rfl, ht1, hcc, hb1⟩
  have hbx := (Below.refl _ w1).alloc (Nat.le_refl _) (.cells (Ip.cells7 17 (four bs 12) (four bs 16) (hs bs) (tl bs) (byt bs 8) (word bs 4)) 37)
  have HX := Lib.hid (Hd.box w1 0 0 0 0 0 0 0)
  have HY := Lib.hid (Hd.box w1 17 (four bs 12) (four bs 16) (hs bs) (tl bs) (byt bs 8) (word bs 4))
  have HT := Lib.hid (ht1.below hbx)
  have HZ1 := Lib.hid ((HZ.out.next hb1).next hbx)
  have hbel1 := HBel.out.trans (hb1.mono (by simp))
  have HBel1 := Lib.hid (hbel1.trans (hbx.mono hbel1.size))
  clear hb1 hbx hbel1 ht1
  obtain ⟨x0, x1, x2, x3, x4, x5, x6⟩ := HX.out.cells
  obtain ⟨g0, g1, g2, g3, g4, g5, g6⟩ := HX.out.frozen
  obtain ⟨y0, y1, y2, y3, y4, y5, y6⟩ := HY.out.cells
  go_wp2_with fail
  go_at_call 16
  have HQ := Lib.hid (Pk.box (w1.alloc (.cells (Ip.cells7 17 (four bs 12) (four bs 16) (hs bs) (tl bs) (byt bs 8) (word bs 4)) 37)) 17 (four bs 12) (four bs 16) 0 0 0 0)
  have hbq := (Below.refl _ (w1.alloc (.cells (Ip.cells7 17 (four bs 12) (four bs 16) (hs bs) (tl bs) (byt bs 8) (word bs 4)) 37))).alloc (Nat.le_refl _) (.cells (pkt 17 (four bs 12) (four bs 16) 0 0 0 0) 26)
  have HZ2 := Lib.hid (HZ1.out.next hbq)
  have HBel2 := Lib.hid (HBel1.out.trans (hbq.mono HBel1.out.size))
  have hlt := HZ1.out.lt
  rw [World.size_alloc] at HQ hlt
  have HT2 := Lib.hid (HT.out.below (hbq.mono (by simp)))
  clear HZ1 HT HBel1 hbq x0 x1 x2 x3 x4 x5 x6 g0 g1 g2 g3 g4 g5 g6 y0 y1 y2 y3 y4 y5 y6
  refine (P2.out _ _ _ _ HT2.out (by simp; omega) hcc.1 hcc.2).mono ?_
  rintro e w2 ⟨rfl, hb2⟩
  have HZ3 := Lib.hid (HZ2.out.next hb2)
  have HQ3 := Lib.hid (HQ.out.next hb2)
  have HBel3 := Lib.hid (HBel2.out.trans (hb2.mono HBel2.out.size))
  clear hb2 HZ2 HQ HBel2 HT2
  obtain ⟨q0, q1, q2, q3, q4, q5, q6⟩ := HQ3.out.cells
  obtain ⟨k0, k1, k2, k3, k4, k5, k6⟩ := HQ3.out.frozen
  obtain ⟨z0, z1, z2, z3, z4, z5, z6⟩ := HZ3.out.cells
  obtain ⟨f0, f1, f2, f3, f4, f5, f6⟩ := HZ3.out.frozen
  have hne : W.heap.size ≠ w1.heap.size + 1 := by omega
  have hne' : w1.heap.size + 1 ≠ W.heap.size := by omega
  have hle : W.heap.size ≤ w1.heap.size + 1 := by omega
  go_wp2_with fail
  obtain ⟨r0, r1, r2, r3, r4, r5, r6⟩ := (((HZ3.out.other (w1.heap.size + 1) 3 hne (.int .u16 (word (body bs) 0 : Int))).other (w1.heap.size + 1) 4 hne (.int .u16 (word (body bs) 2 : Int))).store 17 (four bs 12) (four bs 16) (word (body bs) 0) (word (body bs) 2) 0 0).cells
  exact bodyPost_ret (v := .tuple #[.agg (pkt 17 (four bs 12) (four bs 16) (word (body bs) 0) (word (body bs) 2) 0 0), .int .i64 0]) (by simp [results, Tryd.results8, go_sem, r0, r1, r2, r3, r4, r5, r6]) rfl ⟨ret_v HF.out.symm, below_storeP ((HBel3.out.setCell (p := ⟨w1.heap.size + 1, 3, none⟩) hle (.int .u16 (word (body bs) 0 : Int))).setCell (p := ⟨w1.heap.size + 1, 4, none⟩) hle (.int .u16 (word (body bs) 2 : Int))) (Nat.le_refl _) _ _ _ _ _ _ _⟩

set_option maxHeartbeats 2000000 in
theorem refParse_udpBad (A : Option Addr) (n c : Nat) (bs : List UInt8) (B : Nat) (W : World) (hb : Bts W B A n bs) (hB : B ≤ W.heap.size) (hc : n ≤ c) (hm : c ≤ 9223372036854775807) (h0 : errN bs = 0) (h9 : byt bs 9 = 17) (h1 : errU (four bs 12) (four bs 16) (body bs) ≠ 0) :
    Calls Tryd.prog 8 #[.slice A n c] W fun e w' => e = .returned (wV bs) ∧ Below W.heap.size W w' := by
  have HF := Lib.hid (wV_err (WirM.errW_udp h0 h9) h1)
  obtain ⟨m, hm1⟩ : ∃ m, tl bs - hs bs = m := ⟨_, rfl⟩
  have hm2 : m ≤ 1000000 := by have := tl_lt bs; omega
  have HB := Lib.hid (hb.alloc hB (.cells (pkt 0 0 0 0 0 0 0) 26))
  have HZ := Lib.hid (Pk.box W 0 0 0 0 0 0 0)
  have HBel := Lib.hid ((Below.refl _ W).alloc (Nat.le_refl _) (.cells (pkt 0 0 0 0 0 0 0) 26))
  have HP := Lib.hid (fun W' (hb : Bts W' B A n bs) hB => Ip.refParse_ok A n c bs B W' hb hB hc hm h0)
  unfold Ip.Parsed at HP
  rw [hm1] at HP
  have hs12 := four_lt bs 12
  have hs16 := four_lt bs 16
  have P2 := Lib.hid (fun W' A1 c1 B2 (hb : Bts W' B2 A1 m (body bs)) hB hc hm => Ud.refParse_any (four bs 12) (four bs 16) A1 m c1 (body bs) B2 W' hb hB hc hm hm2 hs12 hs16)
  simp only [Ud.pV_bad (body bs) h1] at P2
  have d : ((errU (four bs 12) (four bs 16) (body bs) : Int) != 0) = true := by simp; omega
  generalize errU (four bs 12) (four bs 16) (body bs) = er at HF P2 d
  clear hb h0 hm1
  go_enter Tryd.func8, Tryd.ntmps8
  go_wp2_with fail
  go_at_call 14
  refine (HP.out _ HB.out (by simp; omega)).mono ?_
  rintro e w1 ⟨A1, c1, rfl, ht1, hcc, hb1⟩
  have hbx := (Below.refl _ w1).alloc (Nat.le_refl _) (.cells (Ip.cells7 17 (four bs 12) (four bs 16) (hs bs) (tl bs) (byt bs 8) (word bs 4)) 37)
  have HX := Lib.hid (Hd.box w1 0 0 0 0 0 0 0)
  have HY := Lib.hid (Hd.box w1 17 (four bs 12) (four bs 16) (hs bs) (tl bs) (byt bs 8) (word bs 4))
  have HT := Lib.hid (ht1.below hbx)
  have HZ1 := Lib.hid ((HZ.out.next hb1).next hbx)
  have hbel1 := HBel.out.trans (hb1.mono (by simp))
  have HBel1 := Lib.hid (hbel1.trans (hbx.mono hbel1.size))
  clear hb1 hbx hbel1 ht1
  obtain ⟨x0, x1, x2, x3, x4, x5, x6⟩ := HX.out.cells
  obtain ⟨g0, g1, g2, g3, g4, g5, g6⟩ := HX.out.frozen
  obtain ⟨y0, y1, y2, y3, y4, y5, y6⟩ := HY.out.cells
  go_wp2_with fail
  go_at_call 16
  have HQ := Lib.hid (Pk.box (w1.alloc (.cells (Ip.cells7 17 (four bs 12) (four bs 16) (hs bs) (tl bs) (byt bs 8) (word bs 4)) 37)) 17 (four bs 12) (four bs 16) 0 0 0 0)
  have hbq := (Below.refl _ (w1.alloc (.cells (Ip.cells7 17 (four bs 12) (four bs 16) (hs bs) (tl bs) (byt bs 8) (word bs 4)) 37))).alloc (Nat.le_refl _) (.cells (pkt 17 (four bs 12) (four bs 16) 0 0 0 0) 26)
  have HZ2 := Lib.hid (HZ1.out.next hbq)
  have HBel2 := Lib.hid (HBel1.out.trans (hbq.mono HBel1.out.size))
  have hlt := HZ1.out.lt
  rw [World.size_alloc] at HQ hlt
  have HT2 := Lib.hid (HT.out.below (hbq.mono (by simp)))
  clear HZ1 HT HBel1 hbq x0 x1 x2 x3 x4 x5 x6 g0 g1 g2 g3 g4 g5 g6 y0 y1 y2 y3 y4 y5 y6
  refine (P2.out _ _ _ _ HT2.out (by simp; omega) hcc.1 hcc.2).mono ?_
  rintro e w2 ⟨rfl, hb2⟩
  have HZ3 := Lib.hid (HZ2.out.next hb2)
  have HQ3 := Lib.hid (HQ.out.next hb2)
  have HBel3 := Lib.hid (HBel2.out.trans (hb2.mono HBel2.out.size))
  clear hb2 HZ2 HQ HBel2 HT2
  obtain ⟨q0, q1, q2, q3, q4, q5, q6⟩ := HQ3.out.cells
  obtain ⟨k0, k1, k2, k3, k4, k5, k6⟩ := HQ3.out.frozen
  obtain ⟨z0, z1, z2, z3, z4, z5, z6⟩ := HZ3.out.cells
  obtain ⟨f0, f1, f2, f3, f4, f5, f6⟩ := HZ3.out.frozen
  have hne : W.heap.size ≠ w1.heap.size + 1 := by omega
  have hne' : w1.heap.size + 1 ≠ W.heap.size := by omega
  have hle : W.heap.size ≤ w1.heap.size + 1 := by omega
  go_wp2_with fail
  obtain ⟨r0, r1, r2, r3, r4, r5, r6⟩ := (((HZ3.out.other (w1.heap.size + 1) 3 hne (.int .u16 0)).other (w1.heap.size + 1) 4 hne (.int .u16 0)).store 0 0 0 0 0 0 0).cells
  exact bodyPost_ret (v := .tuple #[.agg (pkt 0 0 0 0 0 0 0), .int .i64 (er : Int)]) (by simp [results, Tryd.results8, go_sem, r0, r1, r2, r3, r4, r5, r6]) rfl ⟨ret_v HF.out.symm, below_storeP ((HBel3.out.setCell (p := ⟨w1.heap.size + 1, 3, none⟩) hle (.int .u16 0)).setCell (p := ⟨w1.heap.size + 1, 4, none⟩) hle (.int .u16 0)) (Nat.le_refl _) _ _ _ _ _ _ _⟩

set_option maxHeartbeats 2000000 in
theorem refParse_icmpOk (A : Option Addr) (n c : Nat) (bs : List UInt8) (B : Nat) (W : World) (hb : Bts W B A n bs) (hB : B ≤ W.heap.size) (hc : n ≤ c) (hm : c ≤ 9223372036854775807) (h0 : errN bs = 0) (h9 : byt bs 9 = 1) (h1 : errI (body bs) = 0) :
    Calls Tryd.prog 8 #[.slice A n c] W fun e w' => e = .returned (wV bs) ∧ Below W.heap.size W w' := by
  have HF := Lib.hid (wV_icmp h0 h9 h1)
  obtain ⟨m, hm1⟩ : ∃ m, tl bs - hs bs = m := ⟨_, rfl⟩
  have hm2 : m ≤ 1000000 := by have := tl_lt bs; omega
  have HB := Lib.hid (hb.alloc hB (.cells (pkt 0 0 0 0 0 0 0) 26))
  have HZ := Lib.hid (Pk.box W 0 0 0 0 0 0 0)
  have HBel := Lib.hid ((Below.refl _ W).alloc (Nat.le_refl _) (.cells (pkt 0 0 0 0 0 0 0) 26))
  have HP := Lib.hid (fun W' (hb : Bts W' B A n bs) hB => Ip.refParse_ok A n c bs B W' hb hB hc hm h0)
  unfold Ip.Parsed at HP
  rw [hm1] at HP
  have hs12 := four_lt bs 12
  have hs16 := four_lt bs 16
  have P2 := Lib.hid (fun W' A1 c1 B2 (hb : Bts W' B2 A1 m (body bs)) hB hc hm => Ic.refParse_any A1 m c1 (body bs) B2 W' hb hB hc hm hm2)
  rw [h1] at P2
  simp only [Ic.pV_ok (body bs) rfl] at P2
  clear hb h0 hm1
  go_enter Tryd.func8, Tryd.ntmps8
  go_wp2_with fail
  go_at_call 14
  refine (HP.out _ HB.out (by simp; omega)).mono ?_
  rintro e w1 ⟨A1, c1, rfl, ht1, hcc, hb1⟩
  have hbx := (Below.refl _ w1).alloc (Nat.le_refl _) (.cells (Ip.cells7 1 (four bs 12) (four bs 16) (hs bs) (tl bs) (byt bs 8) (word bs 4)) 37)
  have HX := Lib.hid (Hd.box w1 0 0 0 0 0 0 0)
  have HY := Lib.hid (Hd.box w1 1 (four bs 12) (four bs 16) (hs bs) (tl bs) (byt bs 8) (word bs 4))
  have HT := Lib.hid (ht1.below hbx)
  have HZ1 := Lib.hid ((HZ.out.next hb1).next hbx)
  have hbel1 := HBel.out.trans (hb1.mono (by simp))
  have HBel1 := Lib.hid (hbel1.trans (hbx.mono hbel1.size))
  clear hb1 hbx hbel1 ht1
  obtain ⟨x0, x1, x2, x3, x4, x5, x6⟩ := HX.out.cells
  obtain ⟨g0, g1, g2, g3, g4, g5, g6⟩ := HX.out.frozen
  obtain ⟨y0, y1, y2, y3, y4, y5, y6⟩ := HY.out.cells
  go_wp2_with fail
  go_at_call 17
  have HQ := Lib.hid (Pk.box (w1.alloc (.cells (Ip.cells7 1 (four bs 12) (four bs 16) (hs bs) (tl bs) (byt bs 8) (word bs 4)) 37)) 1 (four bs 12) (four bs 16) 0 0 0 0)
  have hbq := (Below.refl _ (w1.alloc (.cells (Ip.cells7 1 (four bs 12) (four bs 16) (hs bs) (tl bs) (byt bs 8) (word bs 4)) 37))).alloc (Nat.le_refl _) (.cells (pkt 1 (four bs 12) (four bs 16) 0 0 0 0) 26)
  have HZ2 := Lib.hid (HZ1.out.next hbq)
  have HBel2 := Lib.hid (HBel1.out.trans (hbq.mono HBel1.out.size))
  have hlt := HZ1.out.lt
  rw [World.size_alloc] at HQ hlt
  have HT2 := Lib.hid (HT.out.below (hbq.mono (by simp)))
  clear HZ1 HT HBel1 hbq x0 x1 x2 x3 x4 x5 x6 g0 g1 g2 g3 g4 g5 g6 y0 y1 y2 y3 y4 y5 y6
  refine (P2.out _ _ _ _ HT2.out (by simp; omega) hcc.1 hcc.2).mono ?_
  rintro e w2 ⟨rfl, hb2⟩
  have HZ3 := Lib.hid (HZ2.out.next hb2)
  have HQ3 := Lib.hid (HQ.out.next hb2)
  have HBel3 := Lib.hid (HBel2.out.trans (hb2.mono HBel2.out.size))
  clear hb2 HZ2 HQ HBel2 HT2
  obtain ⟨q0, q1, q2, q3, q4, q5, q6⟩ := HQ3.out.cells
  obtain ⟨k0, k1, k2, k3, k4, k5, k6⟩ := HQ3.out.frozen
  obtain ⟨z0, z1, z2, z3, z4, z5, z6⟩ := HZ3.out.cells
  obtain ⟨f0, f1, f2, f3, f4, f5, f6⟩ := HZ3.out.frozen
  have hne : W.heap.size ≠ w1.heap.size + 1 := by omega
  have hne' : w1.heap.size + 1 ≠ W.heap.size := by omega
  have hle : W.heap.size ≤ w1.heap.size + 1 := by omega
  go_wp2_with fail
  obtain ⟨r0, r1, r2, r3, r4, r5, r6⟩ := ((((HZ3.out.other (w1.heap.size + 1) 6 hne (.int .u8 (byt (body bs) 0 : Int))).other (w1.heap.size + 1) 3 hne (.int .u16 (word (body bs) 4 : Int))).other (w1.heap.size + 1) 4 hne (.int .u16 (word (body bs) 4 : Int))).store 1 (four bs 12) (four bs 16) (word (body bs) 4) (word (body bs) 4) 0 (byt (body bs) 0)).cells
  exact bodyPost_ret (v := .tuple #[.agg (pkt 1 (four bs 12) (four bs 16) (word (body bs) 4) (word (body bs) 4) 0 (byt (body bs) 0)), .int .i64 0]) (by simp [results, Tryd.results8, go_sem, r0, r1, r2, r3, r4, r5, r6]) rfl ⟨ret_v HF.out.symm, below_storeP (((HBel3.out.setCell (p := ⟨w1.heap.size + 1, 6, none⟩) hle (.int .u8 (byt (body bs) 0 : Int))).setCell (p := ⟨w1.heap.size + 1, 3, none⟩) hle (.int .u16 (word (body bs) 4 : Int))).setCell (p := ⟨w1.heap.size + 1, 4, none⟩) hle (.int .u16 (word (body bs) 4 : Int))) (Nat.le_refl _) _ _ _ _ _ _ _⟩

set_option maxHeartbeats 2000000 in
theorem refParse_icmpBad (A : Option Addr) (n c : Nat) (bs : List UInt8) (B : Nat) (W : World) (hb : Bts W B A n bs) (hB : B ≤ W.heap.size) (hc : n ≤ c) (hm : c ≤ 9223372036854775807) (h0 : errN bs = 0) (h9 : byt bs 9 = 1) (h1 : errI (body bs) ≠ 0) :
    Calls Tryd.prog 8 #[.slice A n c] W fun e w' => e = .returned (wV bs) ∧ Below W.heap.size W w' := by
  have HF := Lib.hid (wV_err (WirM.errW_icmp h0 h9) h1)
  obtain ⟨m, hm1⟩ : ∃ m, tl bs - hs bs = m := ⟨_, rfl⟩
  have hm2 : m ≤ 1000000 := by have := tl_lt bs; omega
  have HB := Lib.hid (hb.alloc hB (.cells (pkt 0 0 0 0 0 0 0) 26))
  have HZ := Lib.hid (Pk.box W 0 0 0 0 0 0 0)
  have HBel := Lib.hid ((Below.refl _ W).alloc (Nat.le_refl _) (.cells (pkt 0 0 0 0 0 0 0) 26))
  have HP := Lib.hid (fun W' (hb : Bts W' B A n bs) hB => Ip.refParse_ok A n c bs B W' hb hB hc hm h0)
  unfold Ip.Parsed at HP
  rw [hm1] at HP
  have hs12 := four_lt bs 12
  have hs16 := four_lt bs 16
  have P2 := Lib.hid (fun W' A1 c1 B2 (hb : Bts W' B2 A1 m (body bs)) hB hc hm => Ic.refParse_any A1 m c1 (body bs) B2 W' hb hB hc hm hm2)
  simp only [Ic.pV_bad (body bs) h1] at P2
  have d : ((errI (body bs) : Int) != 0) = true := by simp; omega
  generalize errI (body bs) = er at HF P2 d
  clear hb h0 hm1
  go_enter Tryd.func8, Tryd.ntmps8
  go_wp2_with fail
  go_at_call 14
  refine (HP.out _ HB.out (by simp; omega)).mono ?_
  rintro e w1 ⟨A1, c1, rfl, ht1, hcc, hb1⟩
  have hbx := (Below.refl _ w1).alloc (Nat.le_refl _) (.cells (Ip.cells7 1 (four bs 12) (four bs 16) (hs bs) (tl bs) (byt bs 8) (word bs 4)) 37)
  have HX := Lib.hid (Hd.box w1 0 0 0 0 0 0 0)
  have HY := Lib.hid (Hd.box w1 1 (four bs 12) (four bs 16) (hs bs) (tl bs) (byt bs 8) (word bs 4))
  have HT := Lib.hid (ht1.below hbx)
  have HZ1 := Lib.hid ((HZ.out.next hb1).next hbx)
  have hbel1 := HBel.out.trans (hb1.mono (by simp))
  have HBel1 := Lib.hid (hbel1.trans (hbx.mono hbel1.size))
  clear hb1 hbx hbel1 ht1
  obtain ⟨x0, x1, x2, x3, x4, x5, x6⟩ := HX.out.cells
  obtain ⟨g0, g1, g2, g3, g4, g5, g6⟩ := HX.out.frozen
  obtain ⟨y0, y1, y2, y3, y4, y5, y6⟩ := HY.out.cells
  go_wp2_with fail
  go_at_call 17
  have HQ := Lib.hid (Pk.box (w1.alloc (.cells (Ip.cells7 1 (four bs 12) (four bs 16) (hs bs) (tl bs) (byt bs 8) (word bs 4)) 37)) 1 (four bs 12) (four bs 16) 0 0 0 0)
  have hbq := (Below.refl _ (w1.alloc (.cells (Ip.cells7 1 (four bs 12) (four bs 16) (hs bs) (tl bs) (byt bs 8) (word bs 4)) 37))).alloc (Nat.le_refl _) (.cells (pkt 1 (four bs 12) (four bs 16) 0 0 0 0) 26)
  have HZ2 := Lib.hid (HZ1.out.next hbq)
  have HBel2 := Lib.hid (HBel1.out.trans (hbq.mono HBel1.out.size))
  have hlt := HZ1.out.lt
  rw [World.size_alloc] at HQ hlt
  have HT2 := Lib.hid (HT.out.below (hbq.mono (by simp)))
  clear HZ1 HT HBel1 hbq x0 x1 x2 x3 x4 x5 x6 g0 g1 g2 g3 g4 g5 g6 y0 y1 y2 y3 y4 y5 y6
  refine (P2.out _ _ _ _ HT2.out (by simp; omega) hcc.1 hcc.2).mono ?_
  rintro e w2 ⟨rfl, hb2⟩
  have HZ3 := Lib.hid (HZ2.out.next hb2)
  have HQ3 := Lib.hid (HQ.out.next hb2)
  have HBel3 := Lib.hid (HBel2.out.trans (hb2.mono HBel2.out.size))
  clear hb2 HZ2 HQ HBel2 HT2
  obtain ⟨q0, q1, q2, q3, q4, q5, q6⟩ := HQ3.out.cells
  obtain ⟨k0, k1, k2, k3, k4, k5, k6⟩ := HQ3.out.frozen
  obtain ⟨z0, z1, z2, z3, z4, z5, z6⟩ := HZ3.out.cells
  obtain ⟨f0, f1, f2, f3, f4, f5, f6⟩ := HZ3.out.frozen
  have hne : W.heap.size ≠ w1.heap.size + 1 := by omega
  have hne' : w1.heap.size + 1 ≠ W.heap.size := by omega
  have hle : W.heap.size ≤ w1.heap.size + 1 := by omega
  go_wp2_with fail
  obtain ⟨r0, r1, r2, r3, r4, r5, r6⟩ := ((((HZ3.out.other (w1.heap.size + 1) 6 hne (.int .u8 0)).other (w1.heap.size + 1) 3 hne (.int .u16 0)).other (w1.heap.size + 1) 4 hne (.int .u16 0)).store 0 0 0 0 0 0 0).cells
  exact bodyPost_ret (v := .tuple #[.agg (pkt 0 0 0 0 0 0 0), .int .i64 (er : Int)]) (by simp [results, Tryd.results8, go_sem, r0, r1, r2, r3, r4, r5, r6]) rfl ⟨ret_v HF.out.symm, below_storeP (((HBel3.out.setCell (p := ⟨w1.heap.size + 1, 6, none⟩) hle (.int .u8 0)).setCell (p := ⟨w1.heap.size + 1, 3, none⟩) hle (.int .u16 0)).setCell (p := ⟨w1.heap.size + 1, 4, none⟩) hle (.int .u16 0)) (Nat.le_refl _) _ _ _ _ _ _ _⟩

set_option maxHeartbeats 2000000 in
theorem refParse_other (A : Option Addr) (n c : Nat) (bs : List UInt8) (B : Nat) (W : World) (hb : Bts W B A n bs) (hB : B ≤ W.heap.size) (hc : n ≤ c) (hm : c ≤ 9223372036854775807) (h0 : errN bs = 0) (h9 : byt bs 9 ≠ 6) (h17 : byt bs 9 ≠ 17) (h1 : byt bs 9 ≠ 1) :
    Calls Tryd.prog 8 #[.slice A n c] W fun e w' => e = .returned (wV bs) ∧ Below W.heap.size W w' := by
  have HF := Lib.hid (wV_err (WirM.errW_other h0 h9 h17 h1) (by omega : 9 ≠ 0))
  obtain ⟨m, hm1⟩ : ∃ m, tl bs - hs bs = m := ⟨_, rfl⟩
  have hm2 : m ≤ 1000000 := by have := tl_lt bs; omega
  have HB := Lib.hid (hb.alloc hB (.cells (pkt 0 0 0 0 0 0 0) 26))
  have HZ := Lib.hid (Pk.box W 0 0 0 0 0 0 0)
  have HBel := Lib.hid ((Below.refl _ W).alloc (Nat.le_refl _) (.cells (pkt 0 0 0 0 0 0 0) 26))
  have HP := Lib.hid (fun W' (hb : Bts W' B A n bs) hB => Ip.refParse_ok A n c bs B W' hb hB hc hm h0)
  unfold Ip.Parsed at HP
  rw [hm1] at HP
  have d6 : ((byt bs 9 : Int) == 6) = false := by simp; omega
  have d17 : ((byt bs 9 : Int) == 17) = false := by simp; omega
  have d1 : ((byt bs 9 : Int) == 1) = false := by simp; omega
  clear hb h0 hm1
  go_enter Tryd.func8, Tryd.ntmps8
  go_wp2_with fail
  go_at_call 14
  refine (HP.out _ HB.out (by simp; omega)).mono ?_
  rintro e w1 ⟨A1, c1, rfl, ht1, hcc, hb1⟩
  have hbx := (Below.refl _ w1).alloc (Nat.le_refl _) (.cells (Ip.cells7 (byt bs 9) (four bs 12) (four bs 16) (hs bs) (tl bs) (byt bs 8) (word bs 4)) 37)
  have HX := Lib.hid (Hd.box w1 0 0 0 0 0 0 0)
  have HY := Lib.hid (Hd.box w1 (byt bs 9) (four bs 12) (four bs 16) (hs bs) (tl bs) (byt bs 8) (word bs 4))
  have HT := Lib.hid (ht1.below hbx)
  have HZ1 := Lib.hid ((HZ.out.next hb1).next hbx)
  have hbel1 := HBel.out.trans (hb1.mono (by simp))
  have HBel1 := Lib.hid (hbel1.trans (hbx.mono hbel1.size))
  clear hb1 hbx hbel1 ht1
  obtain ⟨x0, x1, x2, x3, x4, x5, x6⟩ := HX.out.cells
  obtain ⟨g0, g1, g2, g3, g4, g5, g6⟩ := HX.out.frozen
  obtain ⟨y0, y1, y2, y3, y4, y5, y6⟩ := HY.out.cells
  have HQ := Lib.hid (Pk.box (w1.alloc (.cells (Ip.cells7 (byt bs 9) (four bs 12) (four bs 16) (hs bs) (tl bs) (byt bs 8) (word bs 4)) 37)) (byt bs 9) (four bs 12) (four bs 16) 0 0 0 0)
  have hbq := (Below.refl _ (w1.alloc (.cells (Ip.cells7 (byt bs 9) (four bs 12) (four bs 16) (hs bs) (tl bs) (byt bs 8) (word bs 4)) 37))).alloc (Nat.le_refl _) (.cells (pkt (byt bs 9) (four bs 12) (four bs 16) 0 0 0 0) 26)
  have HZ2 := Lib.hid (HZ1.out.next hbq)
  have HBel2 := Lib.hid (HBel1.out.trans (hbq.mono HBel1.out.size))
  have hlt := HZ1.out.lt
  rw [World.size_alloc] at HQ hlt
  clear hbq hlt
  obtain ⟨z0, z1, z2, z3, z4, z5, z6⟩ := HZ2.out.cells
  obtain ⟨f0, f1, f2, f3, f4, f5, f6⟩ := HZ2.out.frozen
  obtain ⟨q0, q1, q2, q3, q4, q5, q6⟩ := HQ.out.cells
  obtain ⟨k0, k1, k2, k3, k4, k5, k6⟩ := HQ.out.frozen
  go_wp2_with fail
  obtain ⟨r0, r1, r2, r3, r4, r5, r6⟩ := (HZ2.out.store 0 0 0 0 0 0 0).cells
  exact bodyPost_ret (v := .tuple #[.agg (pkt 0 0 0 0 0 0 0), .int .i64 9]) (by simp [results, Tryd.results8, go_sem, r0, r1, r2, r3, r4, r5, r6]) rfl ⟨ret_v HF.out.symm, below_storeP HBel2.out (Nat.le_refl _) _ _ _ _ _ _ _⟩

/-- Whatever the bytes are. -/
theorem refParse_any (A : Option Addr) (n c : Nat) (bs : List UInt8) (B : Nat) (W : World) (hb : Bts W B A n bs) (hB : B ≤ W.heap.size) (hc : n ≤ c) (hm : c ≤ 9223372036854775807) :
    Calls Tryd.prog 8 #[.slice A n c] W fun e w' => e = .returned (wV bs) ∧ Below W.heap.size W w' := by
  by_cases h0 : errN bs = 0
  · by_cases h6 : byt bs 9 = 6
    · by_cases h1 : errT (four bs 12) (four bs 16) (body bs) = 0
      · exact refParse_tcpOk A n c bs B W hb hB hc hm h0 h6 h1
      · exact refParse_tcpBad A n c bs B W hb hB hc hm h0 h6 h1
    · by_cases h17 : byt bs 9 = 17
      · by_cases h1 : errU (four bs 12) (four bs 16) (body bs) = 0
        · exact refParse_udpOk A n c bs B W hb hB hc hm h0 h17 h1
        · exact refParse_udpBad A n c bs B W hb hB hc hm h0 h17 h1
      · by_cases h2 : byt bs 9 = 1
        · by_cases h1 : errI (body bs) = 0
          · exact refParse_icmpOk A n c bs B W hb hB hc hm h0 h2 h1
          · exact refParse_icmpBad A n c bs B W hb hB hc hm h0 h2 h1
        · exact refParse_other A n c bs B W hb hB hc hm h0 h6 h17 h2
  · exact refParse_ipbad A n c bs B W hb hB hc hm h0

end Wi
end Go.Proofs.YtjbdjplliieelaaDoor
