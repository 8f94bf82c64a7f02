/- Layer 9: the contracts of the reference's Good and Build. -/
import Derived.Test.YtapcjjhbdhkhhaaDoorPacB
import Derived.Test.YtapcjjhbdhkhhaaDoorIpE
import Derived.Test.YtapcjjhbdhkhhaaDoorTcpE
import Derived.Test.YtapcjjhbdhkhhaaDoorUdpE
import Derived.Test.YtapcjjhbdhkhhaaDoorIcmpE
set_option linter.unusedVariables false
set_option linter.unusedSimpArgs false
namespace Go.Proofs.YtapcjjhbdhkhhaaDoor
open Go.ChangeShapes Go.WideShapes Go.ChangeAt Go.RowKit Go.Mtl
namespace Pa
open TcpM (saneB seg seg_len)
open UdpM (dat dat_len)
open IcM (echoB echo_yes echo_no msg msg_len)
open PacM (goodB inner whole mx errP out)
open IpM (packB packB_len)
open Wi (Pk pkt)
open Ip (ret_int Row cells7 Hd)

set_option maxHeartbeats 1000000 in
theorem refGood6 (sr ds sp dp : Int) (f kd : Nat) (hf : f < 256) (W : World) (s a b : Bool) (hs : saneB f = s) (ha : decide (f < 64) = a) (hb : decide (kd = 0) = b) :
    Calls Tryd.prog 11 #[.agg (pkt 6 sr ds sp dp f kd)] W fun e w' => e = .returned (.bool (s && a && b)) ∧ Below W.heap.size W w' := by
  have HS := Lib.hid (fun W => Tc.refSane_any f hf s hs W)
  have da : decide ((f : Int) < 64) = a := by rw [← ha]; by_cases h : f < 64 <;> simp [h] <;> omega
  have db : ((kd : Int) == 0) = b := by rw [← hb]; cases h : decide (kd = 0) <;> simp_all
  have HX := Lib.hid (Pk.box W 6 sr ds sp dp f kd)
  have HB := Lib.hid ((Below.refl _ W).alloc (Nat.le_refl _) (.cells (pkt 6 sr ds sp dp f kd) 25))
  obtain ⟨x0, x1, x2, x3, x4, x5, x6⟩ := HX.out.cells
  clear hs ha hb
  cases s <;> cases a <;> cases b
  all_goals
    go_enter Tryd.func11, Tryd.ntmps11
    go_wp2_with (go_at_call 21; refine (HS.out _).mono ?_; rintro e w' ⟨rfl, rfl⟩)
    go_ret
    exact ⟨rfl, HB.out⟩

set_option maxHeartbeats 1000000 in
theorem refGood17 (sr ds sp dp : Int) (f kd : Nat) (W : World) (a b : Bool) (ha : decide (f = 0) = a) (hb : decide (kd = 0) = b) :
    Calls Tryd.prog 11 #[.agg (pkt 17 sr ds sp dp f kd)] W fun e w' => e = .returned (.bool (a && b)) ∧ Below W.heap.size W w' := by
  have da : ((f : Int) != 0) = !a := by rw [← ha]; cases h : decide (f = 0) <;> simp_all
  have db : ((kd : Int) == 0) = b := by rw [← hb]; cases h : decide (kd = 0) <;> simp_all
  have HX := Lib.hid (Pk.box W 17 sr ds sp dp f kd)
  have HB := Lib.hid ((Below.refl _ W).alloc (Nat.le_refl _) (.cells (pkt 17 sr ds sp dp f kd) 25))
  obtain ⟨x0, x1, x2, x3, x4, x5, x6⟩ := HX.out.cells
  clear ha hb
  cases a <;> cases b
  all_goals
    simp only [Bool.not_true, Bool.not_false] at da
    go_enter Tryd.func11, Tryd.ntmps11
    go_wp2_with fail
    go_ret
    exact ⟨rfl, HB.out⟩

set_option maxHeartbeats 1000000 in
theorem refGood1 (sr ds sp dp : Int) (f kd : Nat) (W : World) (k a b : Bool) (hk : echoB kd = k) (ha : decide (f = 0) = a) (db : (sp == dp) = b) :
    Calls Tryd.prog 11 #[.agg (pkt 1 sr ds sp dp f kd)] W fun e w' => e = .returned (.bool (k && a && b)) ∧ Below W.heap.size W w' := by
  have da : ((f : Int) != 0) = !a := by rw [← ha]; cases h : decide (f = 0) <;> simp_all
  have HX := Lib.hid (Pk.box W 1 sr ds sp dp f kd)
  have HB := Lib.hid ((Below.refl _ W).alloc (Nat.le_refl _) (.cells (pkt 1 sr ds sp dp f kd) 25))
  obtain ⟨x0, x1, x2, x3, x4, x5, x6⟩ := HX.out.cells
  have hk8 : (k = true ∧ ((kd : Int) == 0) = true) ∨ (k = true ∧ ((kd : Int) == 0) = false ∧ ((kd : Int) == 8) = true) ∨ (k = false ∧ ((kd : Int) == 0) = false ∧ ((kd : Int) == 8) = false) := by
    cases k
    · obtain ⟨h8, h0⟩ := echo_no hk
      right; right; refine ⟨rfl, ?_, ?_⟩ <;> simp <;> omega
    · rcases echo_yes hk with rfl | rfl
      · right; left; exact ⟨rfl, rfl, rfl⟩
      · left; exact ⟨rfl, rfl⟩
  clear ha hk
  rcases hk8 with ⟨rfl, d0⟩ | ⟨rfl, d0, d8⟩ | ⟨rfl, d0, d8⟩ <;> cases a <;> cases b
  all_goals
    simp only [Bool.not_true, Bool.not_false] at da
    go_enter Tryd.func11, Tryd.ntmps11
    go_wp2_with fail
    go_ret
    exact ⟨rfl, HB.out⟩

theorem refGood0 (pr : Nat) (h6 : pr ≠ 6) (h17 : pr ≠ 17) (h1 : pr ≠ 1) (sr ds sp dp : Int) (f : Nat) (kd : Int) (W : World) :
    Calls Tryd.prog 11 #[.agg (pkt pr sr ds sp dp f kd)] W fun e w' => e = .returned (.bool false) ∧ Below W.heap.size W w' := by
  have d6 : ((pr : Int) == 6) = false := by simp; omega
  have d17 : ((pr : Int) == 17) = false := by simp; omega
  have d1 : ((pr : Int) == 1) = false := by simp; omega
  have HX := Lib.hid (Pk.box W pr sr ds sp dp f kd)
  have HB := Lib.hid ((Below.refl _ W).alloc (Nat.le_refl _) (.cells (pkt pr sr ds sp dp f kd) 25))
  obtain ⟨x0, x1, x2, x3, x4, x5, x6⟩ := HX.out.cells
  clear h6 h17 h1
  by_cases h0 : f = 0
  · have d0 : ((f : Int) != 0) = false := by simp; omega
    clear h0
    go_enter Tryd.func11, Tryd.ntmps11
    go_wp2_with fail
    go_ret
    exact ⟨rfl, HB.out⟩
  · have d0 : ((f : Int) != 0) = true := by simp; omega
    clear h0
    go_enter Tryd.func11, Tryd.ntmps11
    go_wp2_with fail
    go_ret
    exact ⟨rfl, HB.out⟩

theorem refGood_any (pr sp dp f kd : Nat) (sr ds : Int) (hf : f < 256) (g : Bool) (hg : goodB pr sp dp f kd = g) (W : World) :
    Calls Tryd.prog 11 #[.agg (pkt pr sr ds sp dp f kd)] W fun e w' => e = .returned (.bool g) ∧ Below W.heap.size W w' := by
  subst hg
  unfold goodB
  by_cases h6 : pr = 6
  · subst h6; rw [if_pos rfl]; exact refGood6 sr ds sp dp f kd hf W _ _ _ rfl rfl rfl
  rw [if_neg h6]
  by_cases h17 : pr = 17
  · subst h17; rw [if_pos rfl]; exact refGood17 sr ds sp dp f kd W _ _ rfl rfl
  rw [if_neg h17]
  by_cases h1 : pr = 1
  · subst h1; rw [if_pos rfl]; exact refGood1 sr ds sp dp f kd W _ _ _ rfl rfl (by by_cases h : sp = dp <;> simp [h] <;> omega)
  rw [if_neg h1]
  exact refGood0 pr h6 h17 h1 sr ds sp dp f kd W

set_option maxHeartbeats 1000000 in
theorem refBuild_bad (pr sp dp f kd : Nat) (sr ds : Int) (hf : f < 256) (A : Option Addr) (n c : Nat) (W : World) (g : goodB pr sp dp f kd = false) :
    Calls Tryd.prog 8 #[.agg (pkt pr sr ds sp dp f kd), .slice A n c] W (Nil2 1 W) := by
  have HG := Lib.hid (fun W => refGood_any pr sp dp f kd sr ds hf false g W)
  have HX := Lib.hid (Pk.box W pr sr ds sp dp f kd)
  have HB := Lib.hid ((Below.refl _ W).alloc (Nat.le_refl _) (.cells (pkt pr sr ds sp dp f kd) 25))
  obtain ⟨x0, x1, x2, x3, x4, x5, x6⟩ := HX.out.cells
  clear g
  go_enter Tryd.func8, Tryd.ntmps8
  go_wp2_with fail
  go_at_call 11
  refine (HG.out _).mono ?_
  rintro e w1 ⟨rfl, hb1⟩
  have HB1 := Lib.hid (HB.out.trans (hb1.mono (by simp)))
  clear hb1 HX HB x0 x1 x2 x3 x4 x5 x6
  go_wp2_with fail
  go_ret2
  exact ⟨rfl, HB1.out⟩

set_option maxHeartbeats 1000000 in
theorem refBuild6_long (sr ds sp dp f kd : Nat) (hf : f < 256) (A : Option Addr) (n c : Nat) (W : World) (g : goodB 6 sp dp f kd = true) (hc : n ≤ c) (hm : c ≤ 9223372036854775807) (hn : 1460 < n) :
    Calls Tryd.prog 8 #[.agg (pkt 6 sr ds sp dp f kd), .slice A n c] W (Nil2 2 W) := by
  have HG := Lib.hid (fun W => refGood_any 6 sp dp f kd sr ds hf true g W)
  have HP := Lib.hid (fun W => Tc.refBuild_long sr ds sp dp f A n c f (PacM.good_tcp g rfl).2.1 rfl W (PacM.good_tcp g rfl).1 hc hm hn)
  have HX := Lib.hid (Pk.box W 6 sr ds sp dp f kd)
  have HB := Lib.hid ((Below.refl _ W).alloc (Nat.le_refl _) (.cells (pkt 6 sr ds sp dp f kd) 25))
  obtain ⟨x0, x1, x2, x3, x4, x5, x6⟩ := HX.out.cells
  clear g hn
  go_enter Tryd.func8, Tryd.ntmps8
  go_wp2_with fail
  go_at_call 11
  refine (HG.out _).mono ?_
  rintro e w1 ⟨rfl, hb1⟩
  have HX1 := Lib.hid ((HX.out.next hb1).next ((Below.refl _ w1).alloc (Nat.le_refl _) (.cells #[] 5)))
  have hb1' := HB.out.trans (hb1.mono (by simp))
  have HB1 := Lib.hid (hb1'.alloc hb1'.size (.cells #[] 5))
  clear hb1 hb1' HX HB HG x0 x1 x2 x3 x4 x5 x6
  obtain ⟨x0, x1, x2, x3, x4, x5, x6⟩ := HX1.out.cells
  go_wp2_with fail
  go_at_call 15
  refine (HP.out _).mono ?_
  rintro e w2 ⟨rfl, hb2⟩
  have HB2 := Lib.hid (HB1.out.trans (hb2.mono HB1.out.size))
  clear hb2 HX1 HB1 x0 x1 x2 x3 x4 x5 x6
  go_wp2_with fail
  go_ret2
  exact ⟨rfl, HB2.out⟩

set_option maxHeartbeats 2000000 in
theorem refBuild6_ok (sr ds sp dp f kd : Nat) (A : Option Addr) (n c : Nat) (x : List UInt8) (B : Nat) (W : World) (hb : Bts W B A n x) (hB : B ≤ W.heap.size) (g : goodB 6 sp dp f kd = true) (hc : n ≤ c) (hm : c ≤ 9223372036854775807) (hn : n ≤ 1460)
    (hsr : sr < 4294967296) (hds : ds < 4294967296) (hsp : sp < 65536) (hdp : dp < 65536) (hf : f < 256) (hk : kd < 256) (er L : Nat) (l : List UInt8) (hl : packB 0 64 6 sr ds (seg sr ds sp dp f x) = l) (hL : l.length = L) :
    Calls Tryd.prog 8 #[.agg (pkt 6 sr ds sp dp f kd), .slice A n c] W (Bld W 0 L l) := by
  obtain ⟨N, hN⟩ : ∃ N, (seg sr ds sp dp f x).length = N := ⟨_, rfl⟩
  have hxl := hb.len
  have hlen : 20 + x.length = (seg sr ds sp dp f x).length := (seg_len _ _ _ _ _ _).symm
  have hN8 : N ≤ 1480 := by omega
  have HXN : Hid (20 + x.length = N) := hlen.trans hN
  have HL : Hid (20 + (seg sr ds sp dp f x).length = L) := by show _ = _; rw [← hL, ← hl, packB_len]
  have HLL := Lib.hid hl
  have HG := Lib.hid (fun W => refGood_any 6 sp dp f kd sr ds hf true g W)
  have HP := Lib.hid (fun W (hb : Bts W B A n x) hB => Tc.refBuild_cap sr ds sp dp f A n c x B W hb hB hc hm hn hsr hds hsp hdp (PacM.good_tcp g rfl).2.1 (PacM.good_tcp g rfl).1)
  have HN := Lib.hid hN
  have HX := Lib.hid (Pk.box W 6 sr ds sp dp f kd)
  have HT := Lib.hid (hb.alloc hB (.cells (pkt 6 sr ds sp dp f kd) 25))
  have HB := Lib.hid ((Below.refl _ W).alloc (Nat.le_refl _) (.cells (pkt 6 sr ds sp dp f kd) 25))
  obtain ⟨x0, x1, x2, x3, x4, x5, x6⟩ := HX.out.cells
  clear g hn hb hN hL hl hxl hlen
  unfold Tc.RBuiltC at HP
  generalize seg sr ds sp dp f x = ins at HP HN HL HLL
  go_enter Tryd.func8, Tryd.ntmps8
  go_wp2_with fail
  go_at_call 11
  refine (HG.out _).mono ?_
  rintro e w1 ⟨rfl, hb1⟩
  have HX1 := Lib.hid ((HX.out.next hb1).next ((Below.refl _ w1).alloc (Nat.le_refl _) (.cells #[] 5)))
  have hb1' := HB.out.trans (hb1.mono (by simp))
  have HT1 := Lib.hid ((HT.out.below (hb1.mono (by simp; omega))).alloc (Nat.le_trans hB hb1'.size) (.cells #[] 5))
  have HB1 := Lib.hid (hb1'.alloc hb1'.size (.cells #[] 5))
  clear hb1 hb1' HX HB HG HT x0 x1 x2 x3 x4 x5 x6
  obtain ⟨x0, x1, x2, x3, x4, x5, x6⟩ := HX1.out.cells
  go_wp2_with fail
  go_at_call 15
  refine (HP.out _ HT1.out (Nat.le_trans hB HB1.out.size)).mono ?_
  rintro e w2 ⟨A2, c2, rfl, ht2, hc2, hb2⟩
  rw [HXN.out] at ht2 hc2 ⊢
  have HR2 := Lib.hid ht2
  have HC2 := Lib.hid hc2
  have HX2 := Lib.hid (HX1.out.next hb2)
  have HB2 := Lib.hid (HB1.out.trans (hb2.mono HB1.out.size))
  clear hb2 ht2 hc2 HX1 HB1 HT1 HP x0 x1 x2 x3 x4 x5 x6
  obtain ⟨x0, x1, x2, x3, x4, x5, x6⟩ := HX2.out.cells
  go_wp2_with fail
  go_at_call 18
  refine (Ip.refBuild_ok A2 N c2 ins 6 sr ds 64 0 0 0 _ _ HR2.out (Nat.le_refl _) HC2.out.1 HC2.out.2 hN8 (by omega) hsr hds (by omega) (by omega)).mono ?_
  rintro e w3 ⟨A3, c3, rfl, ht3, hc3, hb3⟩
  rw [HL.out] at ht3 hc3 ⊢
  rw [HLL.out] at ht3
  have HR3 := Lib.hid ht3
  have HC3 := Lib.hid hc3
  have HB3 := Lib.hid (HB2.out.trans (hb3.mono HB2.out.size))
  clear hb3 ht3 hc3 HX2 HB2 HR2 HC2 x0 x1 x2 x3 x4 x5 x6
  go_wp2_with fail
  go_ret2
  exact ⟨A3, c3, rfl, HR3, HC3, HB3⟩

set_option maxHeartbeats 1000000 in
theorem refBuild17_long (sr ds sp dp f kd : Nat) (hf : f < 256) (A : Option Addr) (n c : Nat) (W : World) (g : goodB 17 sp dp f kd = true) (hc : n ≤ c) (hm : c ≤ 9223372036854775807) (hn : 1472 < n) :
    Calls Tryd.prog 8 #[.agg (pkt 17 sr ds sp dp f kd), .slice A n c] W (Nil2 2 W) := by
  have HG := Lib.hid (fun W => refGood_any 17 sp dp f kd sr ds hf true g W)
  have HP := Lib.hid (fun W => Ud.refBuild_long sr ds sp dp A n c W hc hm hn)
  have HX := Lib.hid (Pk.box W 17 sr ds sp dp f kd)
  have HB := Lib.hid ((Below.refl _ W).alloc (Nat.le_refl _) (.cells (pkt 17 sr ds sp dp f kd) 25))
  obtain ⟨x0, x1, x2, x3, x4, x5, x6⟩ := HX.out.cells
  clear g hn
  go_enter Tryd.func8, Tryd.ntmps8
  go_wp2_with fail
  go_at_call 11
  refine (HG.out _).mono ?_
  rintro e w1 ⟨rfl, hb1⟩
  have HX1 := Lib.hid ((HX.out.next hb1).next ((Below.refl _ w1).alloc (Nat.le_refl _) (.cells #[] 5)))
  have hb1' := HB.out.trans (hb1.mono (by simp))
  have HB1 := Lib.hid (hb1'.alloc hb1'.size (.cells #[] 5))
  clear hb1 hb1' HX HB HG x0 x1 x2 x3 x4 x5 x6
  obtain ⟨x0, x1, x2, x3, x4, x5, x6⟩ := HX1.out.cells
  go_wp2_with fail
  go_at_call 16
  refine (HP.out _).mono ?_
  rintro e w2 ⟨rfl, hb2⟩
  have HB2 := Lib.hid (HB1.out.trans (hb2.mono HB1.out.size))
  clear hb2 HX1 HB1 x0 x1 x2 x3 x4 x5 x6
  go_wp2_with fail
  go_ret2
  exact ⟨rfl, HB2.out⟩

set_option maxHeartbeats 2000000 in
theorem refBuild17_ok (sr ds sp dp f kd : Nat) (A : Option Addr) (n c : Nat) (x : List UInt8) (B : Nat) (W : World) (hb : Bts W B A n x) (hB : B ≤ W.heap.size) (g : goodB 17 sp dp f kd = true) (hc : n ≤ c) (hm : c ≤ 9223372036854775807) (hn : n ≤ 1472)
    (hsr : sr < 4294967296) (hds : ds < 4294967296) (hsp : sp < 65536) (hdp : dp < 65536) (hf : f < 256) (hk : kd < 256) (er L : Nat) (l : List UInt8) (hl : packB 0 64 17 sr ds (dat sr ds sp dp x) = l) (hL : l.length = L) :
    Calls Tryd.prog 8 #[.agg (pkt 17 sr ds sp dp f kd), .slice A n c] W (Bld W 0 L l) := by
  obtain ⟨N, hN⟩ : ∃ N, (dat sr ds sp dp x).length = N := ⟨_, rfl⟩
  have hxl := hb.len
  have hlen : 8 + x.length = (dat sr ds sp dp x).length := (dat_len _ _ _ _ _).symm
  have hN8 : N ≤ 1480 := by omega
  have HXN : Hid (8 + x.length = N) := hlen.trans hN
  have HL : Hid (20 + (dat sr ds sp dp x).length = L) := by show _ = _; rw [← hL, ← hl, packB_len]
  have HLL := Lib.hid hl
  have HG := Lib.hid (fun W => refGood_any 17 sp dp f kd sr ds hf true g W)
  have HP := Lib.hid (fun W (hb : Bts W B A n x) hB => Ud.refBuild_cap sr ds sp dp A n c x B W hb hB hc hm hn hsr hds hsp hdp)
  have HN := Lib.hid hN
  have HX := Lib.hid (Pk.box W 17 sr ds sp dp f kd)
  have HT := Lib.hid (hb.alloc hB (.cells (pkt 17 sr ds sp dp f kd) 25))
  have HB := Lib.hid ((Below.refl _ W).alloc (Nat.le_refl _) (.cells (pkt 17 sr ds sp dp f kd) 25))
  obtain ⟨x0, x1, x2, x3, x4, x5, x6⟩ := HX.out.cells
  clear g hn hb hN hL hl hxl hlen
  unfold Ud.RBuiltC at HP
  generalize dat sr ds sp dp x = ins at HP HN HL HLL
  go_enter Tryd.func8, Tryd.ntmps8
  go_wp2_with fail
  go_at_call 11
  refine (HG.out _).mono ?_
  rintro e w1 ⟨rfl, hb1⟩
  have HX1 := Lib.hid ((HX.out.next hb1).next ((Below.refl _ w1).alloc (Nat.le_refl _) (.cells #[] 5)))
  have hb1' := HB.out.trans (hb1.mono (by simp))
  have HT1 := Lib.hid ((HT.out.below (hb1.mono (by simp; omega))).alloc (Nat.le_trans hB hb1'.size) (.cells #[] 5))
  have HB1 := Lib.hid (hb1'.alloc hb1'.size (.cells #[] 5))
  clear hb1 hb1' HX HB HG HT x0 x1 x2 x3 x4 x5 x6
  obtain ⟨x0, x1, x2, x3, x4, x5, x6⟩ := HX1.out.cells
  go_wp2_with fail
  go_at_call 16
  refine (HP.out _ HT1.out (Nat.le_trans hB HB1.out.size)).mono ?_
  rintro e w2 ⟨A2, c2, rfl, ht2, hc2, hb2⟩
  rw [HXN.out] at ht2 hc2 ⊢
  have HR2 := Lib.hid ht2
  have HC2 := Lib.hid hc2
  have HX2 := Lib.hid (HX1.out.next hb2)
  have HB2 := Lib.hid (HB1.out.trans (hb2.mono HB1.out.size))
  clear hb2 ht2 hc2 HX1 HB1 HT1 HP x0 x1 x2 x3 x4 x5 x6
  obtain ⟨x0, x1, x2, x3, x4, x5, x6⟩ := HX2.out.cells
  go_wp2_with fail
  go_at_call 18
  refine (Ip.refBuild_ok A2 N c2 ins 17 sr ds 64 0 0 0 _ _ HR2.out (Nat.le_refl _) HC2.out.1 HC2.out.2 hN8 (by omega) hsr hds (by omega) (by omega)).mono ?_
  rintro e w3 ⟨A3, c3, rfl, ht3, hc3, hb3⟩
  rw [HL.out] at ht3 hc3 ⊢
  rw [HLL.out] at ht3
  have HR3 := Lib.hid ht3
  have HC3 := Lib.hid hc3
  have HB3 := Lib.hid (HB2.out.trans (hb3.mono HB2.out.size))
  clear hb3 ht3 hc3 HX2 HB2 HR2 HC2 x0 x1 x2 x3 x4 x5 x6
  go_wp2_with fail
  go_ret2
  exact ⟨A3, c3, rfl, HR3, HC3, HB3⟩

set_option maxHeartbeats 1000000 in
theorem refBuild1_long (sr ds sp dp f kd : Nat) (hf : f < 256) (A : Option Addr) (n c : Nat) (W : World) (g : goodB 1 sp dp f kd = true) (hc : n ≤ c) (hm : c ≤ 9223372036854775807) (hn : 1472 < n) :
    Calls Tryd.prog 8 #[.agg (pkt 1 sr ds sp dp f kd), .slice A n c] W (Nil2 2 W) := by
  have HG := Lib.hid (fun W => refGood_any 1 sp dp f kd sr ds hf true g W)
  have HP := Lib.hid (fun W => Ic.refBuild_long kd sp A n c W (PacM.good_icmp g rfl).1 hc hm hn)
  have HX := Lib.hid (Pk.box W 1 sr ds sp dp f kd)
  have HB := Lib.hid ((Below.refl _ W).alloc (Nat.le_refl _) (.cells (pkt 1 sr ds sp dp f kd) 25))
  obtain ⟨x0, x1, x2, x3, x4, x5, x6⟩ := HX.out.cells
  clear g hn
  go_enter Tryd.func8, Tryd.ntmps8
  go_wp2_with fail
  go_at_call 11
  refine (HG.out _).mono ?_
  rintro e w1 ⟨rfl, hb1⟩
  have HX1 := Lib.hid ((HX.out.next hb1).next ((Below.refl _ w1).alloc (Nat.le_refl _) (.cells #[] 5)))
  have hb1' := HB.out.trans (hb1.mono (by simp))
  have HB1 := Lib.hid (hb1'.alloc hb1'.size (.cells #[] 5))
  clear hb1 hb1' HX HB HG x0 x1 x2 x3 x4 x5 x6
  obtain ⟨x0, x1, x2, x3, x4, x5, x6⟩ := HX1.out.cells
  go_wp2_with fail
  go_at_call 17
  refine (HP.out _).mono ?_
  rintro e w2 ⟨rfl, hb2⟩
  have HB2 := Lib.hid (HB1.out.trans (hb2.mono HB1.out.size))
  clear hb2 HX1 HB1 x0 x1 x2 x3 x4 x5 x6
  go_wp2_with fail
  go_ret2
  exact ⟨rfl, HB2.out⟩

set_option maxHeartbeats 2000000 in
theorem refBuild1_ok (sr ds sp dp f kd : Nat) (A : Option Addr) (n c : Nat) (x : List UInt8) (B : Nat) (W : World) (hb : Bts W B A n x) (hB : B ≤ W.heap.size) (g : goodB 1 sp dp f kd = true) (hc : n ≤ c) (hm : c ≤ 9223372036854775807) (hn : n ≤ 1472)
    (hsr : sr < 4294967296) (hds : ds < 4294967296) (hsp : sp < 65536) (hdp : dp < 65536) (hf : f < 256) (hk : kd < 256) (er L : Nat) (l : List UInt8) (hl : packB 0 64 1 sr ds (msg kd sp x) = l) (hL : l.length = L) :
    Calls Tryd.prog 8 #[.agg (pkt 1 sr ds sp dp f kd), .slice A n c] W (Bld W 0 L l) := by
  obtain ⟨N, hN⟩ : ∃ N, (msg kd sp x).length = N := ⟨_, rfl⟩
  have hxl := hb.len
  have hlen : 8 + x.length = (msg kd sp x).length := (msg_len _ _ _).symm
  have hN8 : N ≤ 1480 := by omega
  have HXN : Hid (8 + x.length = N) := hlen.trans hN
  have HL : Hid (20 + (msg kd sp x).length = L) := by show _ = _; rw [← hL, ← hl, packB_len]
  have HLL := Lib.hid hl
  have HG := Lib.hid (fun W => refGood_any 1 sp dp f kd sr ds hf true g W)
  have HP := Lib.hid (fun W (hb : Bts W B A n x) hB => Ic.refBuild_cap kd sp A n c x B W (PacM.good_icmp g rfl).1 hb hB hc hm hn hsp)
  have HN := Lib.hid hN
  have HX := Lib.hid (Pk.box W 1 sr ds sp dp f kd)
  have HT := Lib.hid (hb.alloc hB (.cells (pkt 1 sr ds sp dp f kd) 25))
  have HB := Lib.hid ((Below.refl _ W).alloc (Nat.le_refl _) (.cells (pkt 1 sr ds sp dp f kd) 25))
  obtain ⟨x0, x1, x2, x3, x4, x5, x6⟩ := HX.out.cells
  clear g hn hb hN hL hl hxl hlen
  unfold Ic.RBuiltC at HP
  generalize msg kd sp x = ins at HP HN HL HLL
  go_enter Tryd.func8, Tryd.ntmps8
  go_wp2_with fail
  go_at_call 11
  refine (HG.out _).mono ?_
  rintro e w1 ⟨rfl, hb1⟩
  have HX1 := Lib.hid ((HX.out.next hb1).next ((Below.refl _ w1).alloc (Nat.le_refl _) (.cells #[] 5)))
  have hb1' := HB.out.trans (hb1.mono (by simp))
  have HT1 := Lib.hid ((HT.out.below (hb1.mono (by simp; omega))).alloc (Nat.le_trans hB hb1'.size) (.cells #[] 5))
  have HB1 := Lib.hid (hb1'.alloc hb1'.size (.cells #[] 5))
  clear hb1 hb1' HX HB HG HT x0 x1 x2 x3 x4 x5 x6
  obtain ⟨x0, x1, x2, x3, x4, x5, x6⟩ := HX1.out.cells
  go_wp2_with fail
  go_at_call 17
  refine (HP.out _ HT1.out (Nat.le_trans hB HB1.out.size)).mono ?_
  rintro e w2 ⟨A2, c2, rfl, ht2, hc2, hb2⟩
  rw [HXN.out] at ht2 hc2 ⊢
  have HR2 := Lib.hid ht2
  have HC2 := Lib.hid hc2
  have HX2 := Lib.hid (HX1.out.next hb2)
  have HB2 := Lib.hid (HB1.out.trans (hb2.mono HB1.out.size))
  clear hb2 ht2 hc2 HX1 HB1 HT1 HP x0 x1 x2 x3 x4 x5 x6
  obtain ⟨x0, x1, x2, x3, x4, x5, x6⟩ := HX2.out.cells
  go_wp2_with fail
  go_at_call 18
  refine (Ip.refBuild_ok A2 N c2 ins 1 sr ds 64 0 0 0 _ _ HR2.out (Nat.le_refl _) HC2.out.1 HC2.out.2 hN8 (by omega) hsr hds (by omega) (by omega)).mono ?_
  rintro e w3 ⟨A3, c3, rfl, ht3, hc3, hb3⟩
  rw [HL.out] at ht3 hc3 ⊢
  rw [HLL.out] at ht3
  have HR3 := Lib.hid ht3
  have HC3 := Lib.hid hc3
  have HB3 := Lib.hid (HB2.out.trans (hb3.mono HB2.out.size))
  clear hb3 ht3 hc3 HX2 HB2 HR2 HC2 x0 x1 x2 x3 x4 x5 x6
  go_wp2_with fail
  go_ret2
  exact ⟨A3, c3, rfl, HR3, HC3, HB3⟩

theorem refBuild_any (pr sr ds sp dp f kd : Nat) (A : Option Addr) (n c : Nat) (x : List UInt8) (B : Nat) (W : World) (hb : Bts W B A n x) (hB : B ≤ W.heap.size) (hc : n ≤ c) (hm : c ≤ 9223372036854775807)
    (hpr : pr < 256) (hsr : sr < 4294967296) (hds : ds < 4294967296) (hsp : sp < 65536) (hdp : dp < 65536) (hf : f < 256) (hk : kd < 256) (er N : Nat) (l : List UInt8) (her : errP pr sp dp f kd n = er) (hl : out pr sr ds sp dp f kd x = l) (hN : l.length = N) :
    Calls Tryd.prog 8 #[.agg (pkt pr sr ds sp dp f kd), .slice A n c] W (Bld W er N l) := by
  have hx := hb.len
  by_cases g : goodB pr sp dp f kd = true
  · by_cases h : mx pr < n
    · have e2 := PacM.errP_long g h
      subst her hl hN
      rw [PacM.out_bad (by rw [hx, e2]; omega), e2]
      have hn := h
      unfold mx at hn
      have H : Calls Tryd.prog 8 #[.agg (pkt pr sr ds sp dp f kd), .slice A n c] W (Nil2 2 W) := by
        rcases PacM.good_one g with rfl | rfl | rfl
        · exact refBuild6_long sr ds sp dp f kd hf A n c W g hc hm (by simpa using hn)
        · exact refBuild17_long sr ds sp dp f kd hf A n c W g hc hm (by simpa using hn)
        · exact refBuild1_long sr ds sp dp f kd hf A n c W g hc hm (by simpa using hn)
      exact H.mono fun e w' ⟨h1, h2⟩ => ⟨none, 0, h1, Bts.empty _ _ _, ⟨by simp, by omega⟩, h2⟩
    · have e0 := PacM.errP_ok g (Nat.le_of_not_lt h)
      rw [PacM.out_ok (by rw [hx, e0])] at hl
      obtain rfl := her.symm.trans e0
      have hn := Nat.le_of_not_lt h
      unfold mx at hn
      unfold whole inner at hl
      rcases PacM.good_one g with rfl | rfl | rfl
      · exact refBuild6_ok sr ds sp dp f kd A n c x B W hb hB g hc hm (by simpa using hn) hsr hds hsp hdp hf hk 0 N l hl hN
      · exact refBuild17_ok sr ds sp dp f kd A n c x B W hb hB g hc hm (by simpa using hn) hsr hds hsp hdp hf hk 0 N l hl hN
      · exact refBuild1_ok sr ds sp dp f kd A n c x B W hb hB g hc hm (by simpa using hn) hsr hds hsp hdp hf hk 0 N l hl hN
  · have g : goodB pr sp dp f kd = false := by simpa using g
    have e1 := PacM.errP_bad (n := n) g
    subst her hl hN
    rw [PacM.out_bad (by rw [hx, e1]; omega), e1]
    exact (refBuild_bad pr sp dp f kd sr ds hf A n c W g).mono fun e w' ⟨h1, h2⟩ => ⟨none, 0, h1, Bts.empty _ _ _, ⟨by simp, by omega⟩, h2⟩

end Pa
end Go.Proofs.YtapcjjhbdhkhhaaDoor
