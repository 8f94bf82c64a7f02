/- Layer 9: the contracts of inside and Build of package pack. -/
import Derived.Test.YtapcjjhbdhkhhaaDoorPacA
import Derived.Test.YtapcjjhbdhkhhaaDoorIpD
import Derived.Test.YtapcjjhbdhkhhaaDoorTcpD
import Derived.Test.YtapcjjhbdhkhhaaDoorUdpD
import Derived.Test.YtapcjjhbdhkhhaaDoorIcmpD
set_option linter.unusedVariables false
set_option linter.unusedSimpArgs false
namespace Go.Proofs.YtapcjjhbdhkhhaaDoor
open Go.ChangeShapes Go.WideShapes Go.ChangeAt Go.RowKit Go.Mtl
namespace Pa
open TcpM (saneB seg seg_len)
open UdpM (dat dat_len)
open IcM (echoB msg msg_len)
open PacM (goodB inner whole mx errP out)
open IpM (packB packB_len)
open Wi (Pk pkt)
open Ip (ret_int Row cells7 Hd)

/-- What inside hands back: a block of its own. -/
def InOk (W : World) (N : Nat) (l : List UInt8) (e : Ending) (w' : World) : Prop :=
  ∃ g, e = .returned (.tuple #[.slice (some ⟨g, 0, none⟩) N N, .int .i64 0]) ∧ Row w' g l ∧ W.heap.size ≤ g ∧ Below W.heap.size W w'
abbrev Nil2 (er : Nat) (W : World) (e : Ending) (w' : World) : Prop := e = .returned (.tuple #[.slice none 0 0, .int .i64 (er : Int)]) ∧ Below W.heap.size W w'

set_option maxHeartbeats 1000000 in
theorem inside6_long (sr ds sp dp : Int) (f : Nat) (kd : Int) (A : Option Addr) (n c : Nat) (W : World) (he : Tc.Env W) (hf : f < 64) (h : saneB f = true) (hc : n ≤ c) (hm : c ≤ 9223372036854775807) (hn : 1460 < n) :
    Calls Tryd.prog 13 #[.agg (pkt 6 sr ds sp dp f kd), .slice A n c] W (Nil2 2 W) := by
  have HP := Lib.hid (fun W he => Tc.build_long sr ds sp dp f A n c f hf rfl W he h hc hm hn)
  have HX := Lib.hid (Pk.box W 6 sr ds sp dp f kd)
  have HE := Lib.hid (he.alloc (.cells (pkt 6 sr ds sp dp f kd) 25))
  have HB := Lib.hid ((Below.refl _ W).alloc (Nat.le_refl _) (.cells (pkt 6 sr ds sp dp f kd) 25))
  obtain ⟨x0, x1, x2, x3, x4, x5, x6⟩ := HX.out.cells
  clear he h
  go_enter Tryd.func13, Tryd.ntmps13
  go_wp2_with fail
  go_at_call 26
  refine (HP.out _ HE.out).mono ?_
  rintro e w1 ⟨rfl, hb1⟩
  have HB1 := Lib.hid (HB.out.trans (hb1.mono (by simp)))
  clear hb1 HX HE HB x0 x1 x2 x3 x4 x5 x6
  go_wp2_with fail
  go_ret2
  exact ⟨rfl, HB1.out⟩

set_option maxHeartbeats 1000000 in
theorem inside6_ok (sr ds sp dp f : Nat) (kd : Int) (A : Option Addr) (n c : Nat) (x : List UInt8) (B : Nat) (W : World) (hb : Bts W B A n x) (hB : B ≤ W.heap.size) (hc : n ≤ c) (hm : c ≤ 9223372036854775807) (hn : n ≤ 1460)
    (hsr : sr < 4294967296) (hds : ds < 4294967296) (hsp : sp < 65536) (hdp : dp < 65536) (hf : f < 64) (h : saneB f = true) (he : Tc.Env W) (N : Nat) (hN : 20 + x.length = N) :
    Calls Tryd.prog 13 #[.agg (pkt 6 sr ds sp dp f kd), .slice A n c] W (InOk W N (seg sr ds sp dp f x)) := by
  have HP := Lib.hid (fun W (hb : Bts W B A n x) hB he => Tc.build_ok sr ds sp dp f A n c x B W hb hB hc hm hn hsr hds hsp hdp hf h he)
  have HX := Lib.hid (Pk.box W 6 sr ds sp dp f kd)
  have HE := Lib.hid (he.alloc (.cells (pkt 6 sr ds sp dp f kd) 25))
  have HT := Lib.hid (hb.alloc hB (.cells (pkt 6 sr ds sp dp f kd) 25))
  have HB := Lib.hid ((Below.refl _ W).alloc (Nat.le_refl _) (.cells (pkt 6 sr ds sp dp f kd) 25))
  have HN := Lib.hid hN
  obtain ⟨x0, x1, x2, x3, x4, x5, x6⟩ := HX.out.cells
  clear he h hb hN
  go_enter Tryd.func13, Tryd.ntmps13
  go_wp2_with fail
  go_at_call 26
  refine (HP.out _ HT.out (by simp; omega) HE.out).mono ?_
  rintro e w1 ⟨g, rfl, hr, hg, hb1⟩
  rw [HN.out]
  have HR := Lib.hid hr
  have hg : W.heap.size ≤ g := by simp at hg; omega
  have HB1 := Lib.hid (HB.out.trans (hb1.mono (by simp)))
  clear hb1 hr HX HE HT HB x0 x1 x2 x3 x4 x5 x6
  go_wp2_with fail
  go_ret2
  exact ⟨g, rfl, HR.out, hg, HB1.out⟩

set_option maxHeartbeats 1000000 in
theorem inside17_long (sr ds sp dp fl kd : Int) (A : Option Addr) (n c : Nat) (W : World) (hc : n ≤ c) (hm : c ≤ 9223372036854775807) (hn : 1472 < n) :
    Calls Tryd.prog 13 #[.agg (pkt 17 sr ds sp dp fl kd), .slice A n c] W (Nil2 2 W) := by
  have HP := Lib.hid (fun W => Ud.build_long sr ds sp dp A n c W hc hm hn)
  have HX := Lib.hid (Pk.box W 17 sr ds sp dp fl kd)
  have HB := Lib.hid ((Below.refl _ W).alloc (Nat.le_refl _) (.cells (pkt 17 sr ds sp dp fl kd) 25))
  obtain ⟨x0, x1, x2, x3, x4, x5, x6⟩ := HX.out.cells
  go_enter Tryd.func13, Tryd.ntmps13
  go_wp2_with fail
  go_at_call 27
  refine (HP.out _).mono ?_
  rintro e w1 ⟨rfl, hb1⟩
  have HB1 := Lib.hid (HB.out.trans (hb1.mono (by simp)))
  clear hb1 HX HB x0 x1 x2 x3 x4 x5 x6
  go_wp2_with fail
  go_ret2
  exact ⟨rfl, HB1.out⟩

set_option maxHeartbeats 1000000 in
theorem inside17_ok (sr ds sp dp : Nat) (fl kd : Int) (A : Option Addr) (n c : Nat) (x : List UInt8) (B : Nat) (W : World) (hb : Bts W B A n x) (hB : B ≤ W.heap.size) (hc : n ≤ c) (hm : c ≤ 9223372036854775807) (hn : n ≤ 1472)
    (hsr : sr < 4294967296) (hds : ds < 4294967296) (hsp : sp < 65536) (hdp : dp < 65536) (N : Nat) (hN : 8 + x.length = N) :
    Calls Tryd.prog 13 #[.agg (pkt 17 sr ds sp dp fl kd), .slice A n c] W (InOk W N (dat sr ds sp dp x)) := by
  have HP := Lib.hid (fun W (hb : Bts W B A n x) hB => Ud.build_ok sr ds sp dp A n c x B W hb hB hc hm hn hsr hds hsp hdp)
  have HX := Lib.hid (Pk.box W 17 sr ds sp dp fl kd)
  have HT := Lib.hid (hb.alloc hB (.cells (pkt 17 sr ds sp dp fl kd) 25))
  have HB := Lib.hid ((Below.refl _ W).alloc (Nat.le_refl _) (.cells (pkt 17 sr ds sp dp fl kd) 25))
  have HN := Lib.hid hN
  obtain ⟨x0, x1, x2, x3, x4, x5, x6⟩ := HX.out.cells
  clear hb hN
  go_enter Tryd.func13, Tryd.ntmps13
  go_wp2_with fail
  go_at_call 27
  refine (HP.out _ HT.out (by simp; omega)).mono ?_
  rintro e w1 ⟨g, rfl, hr, hg, hb1⟩
  rw [HN.out]
  have HR := Lib.hid hr
  have hg : W.heap.size ≤ g := by simp at hg; omega
  have HB1 := Lib.hid (HB.out.trans (hb1.mono (by simp)))
  clear hb1 hr HX HT HB x0 x1 x2 x3 x4 x5 x6
  go_wp2_with fail
  go_ret2
  exact ⟨g, rfl, HR.out, hg, HB1.out⟩

set_option maxHeartbeats 1000000 in
theorem inside1_long (sr ds sp dp fl : Int) (kd : Nat) (A : Option Addr) (n c : Nat) (W : World) (h : echoB kd = true) (hc : n ≤ c) (hm : c ≤ 9223372036854775807) (hn : 1472 < n) :
    Calls Tryd.prog 13 #[.agg (pkt 1 sr ds sp dp fl kd), .slice A n c] W (Nil2 2 W) := by
  have HP := Lib.hid (fun W => Ic.build_long kd sp A n c W h hc hm hn)
  have HX := Lib.hid (Pk.box W 1 sr ds sp dp fl kd)
  have HB := Lib.hid ((Below.refl _ W).alloc (Nat.le_refl _) (.cells (pkt 1 sr ds sp dp fl kd) 25))
  obtain ⟨x0, x1, x2, x3, x4, x5, x6⟩ := HX.out.cells
  clear h
  go_enter Tryd.func13, Tryd.ntmps13
  go_wp2_with fail
  go_at_call 28
  refine (HP.out _).mono ?_
  rintro e w1 ⟨rfl, hb1⟩
  have HB1 := Lib.hid (HB.out.trans (hb1.mono (by simp)))
  clear hb1 HX HB x0 x1 x2 x3 x4 x5 x6
  go_wp2_with fail
  go_ret2
  exact ⟨rfl, HB1.out⟩

set_option maxHeartbeats 1000000 in
theorem inside1_ok (sr ds : Int) (sp : Nat) (dp fl : Int) (kd : Nat) (A : Option Addr) (n c : Nat) (x : List UInt8) (B : Nat) (W : World) (h : echoB kd = true) (hb : Bts W B A n x) (hB : B ≤ W.heap.size) (hc : n ≤ c) (hm : c ≤ 9223372036854775807) (hn : n ≤ 1472)
    (hsp : sp < 65536) (hk : kd < 256) (N : Nat) (hN : 8 + x.length = N) :
    Calls Tryd.prog 13 #[.agg (pkt 1 sr ds sp dp fl kd), .slice A n c] W (InOk W N (msg kd sp x)) := by
  have HP := Lib.hid (fun W (hb : Bts W B A n x) hB => Ic.build_ok kd sp A n c x B W h hb hB hc hm hn hk hsp)
  have HX := Lib.hid (Pk.box W 1 sr ds sp dp fl kd)
  have HT := Lib.hid (hb.alloc hB (.cells (pkt 1 sr ds sp dp fl kd) 25))
  have HB := Lib.hid ((Below.refl _ W).alloc (Nat.le_refl _) (.cells (pkt 1 sr ds sp dp fl kd) 25))
  have HN := Lib.hid hN
  obtain ⟨x0, x1, x2, x3, x4, x5, x6⟩ := HX.out.cells
  clear hb hN h
  go_enter Tryd.func13, Tryd.ntmps13
  go_wp2_with fail
  go_at_call 28
  refine (HP.out _ HT.out (by simp; omega)).mono ?_
  rintro e w1 ⟨g, rfl, hr, hg, hb1⟩
  rw [HN.out]
  have HR := Lib.hid hr
  have hg : W.heap.size ≤ g := by simp at hg; omega
  have HB1 := Lib.hid (HB.out.trans (hb1.mono (by simp)))
  clear hb1 hr HX HT HB x0 x1 x2 x3 x4 x5 x6
  go_wp2_with fail
  go_ret2
  exact ⟨g, rfl, HR.out, hg, HB1.out⟩

theorem inside_long (pr sp dp f kd : Nat) (sr ds : Int) (A : Option Addr) (n c : Nat) (W : World) (he : Tc.Env W) (g : goodB pr sp dp f kd = true) (hc : n ≤ c) (hm : c ≤ 9223372036854775807) (hn : mx pr < n) :
    Calls Tryd.prog 13 #[.agg (pkt pr sr ds sp dp f kd), .slice A n c] W (Nil2 2 W) := by
  unfold mx at hn
  rcases PacM.good_one g with rfl | rfl | rfl
  · obtain ⟨gs, gf, _⟩ := PacM.good_tcp g rfl
    exact inside6_long sr ds sp dp f kd A n c W he gf gs hc hm (by simpa using hn)
  · exact inside17_long sr ds sp dp f kd A n c W hc hm (by simpa using hn)
  · exact inside1_long sr ds sp dp f kd A n c W (PacM.good_icmp g rfl).1 hc hm (by simpa using hn)
theorem inside_ok (pr sr ds sp dp f kd : Nat) (A : Option Addr) (n c : Nat) (x : List UInt8) (B : Nat) (W : World) (hb : Bts W B A n x) (hB : B ≤ W.heap.size) (he : Tc.Env W) (g : goodB pr sp dp f kd = true) (hc : n ≤ c) (hm : c ≤ 9223372036854775807) (hn : n ≤ mx pr)
    (hsr : sr < 4294967296) (hds : ds < 4294967296) (hsp : sp < 65536) (hdp : dp < 65536) (hk : kd < 256) (N : Nat) (hN : (inner pr sr ds sp dp f kd x).length = N) :
    Calls Tryd.prog 13 #[.agg (pkt pr sr ds sp dp f kd), .slice A n c] W (InOk W N (inner pr sr ds sp dp f kd x)) := by
  unfold mx at hn
  unfold inner at hN ⊢
  rcases PacM.good_one g with rfl | rfl | rfl
  · obtain ⟨gs, gf, _⟩ := PacM.good_tcp g rfl
    exact inside6_ok sr ds sp dp f kd A n c x B W hb hB hc hm (by simpa using hn) hsr hds hsp hdp gf gs he N ((seg_len _ _ _ _ _ _).symm.trans hN)
  · exact inside17_ok sr ds sp dp f kd A n c x B W hb hB hc hm (by simpa using hn) hsr hds hsp hdp N ((dat_len _ _ _ _ _).symm.trans hN)
  · exact inside1_ok sr ds sp dp f kd A n c x B W (PacM.good_icmp g rfl).1 hb hB hc hm (by simpa using hn) hsp hk N ((msg_len _ _ _).symm.trans hN)

/-- What Build answers, whatever it is given. -/
def Bld (W : World) (er N : Nat) (l : List UInt8) (e : Ending) (w' : World) : Prop :=
  ∃ A c, e = .returned (.tuple #[.slice A N c, .int .i64 (er : Int)]) ∧ Hid (Bts w' w'.heap.size A N l) ∧ Hid (N ≤ c ∧ c ≤ 9223372036854775807) ∧ Hid (Below W.heap.size W w')

set_option maxHeartbeats 1000000 in
theorem build_bad (pr sp dp f kd : Nat) (sr ds : Int) (hf : f < 256) (A : Option Addr) (n c : Nat) (W : World) (he : Tc.Env W) (g : goodB pr sp dp f kd = false) :
    Calls Tryd.prog 6 #[.agg (pkt pr sr ds sp dp f kd), .slice A n c] W (Nil2 1 W) := by
  have HG := Lib.hid (fun W he => good_any pr sp dp f kd sr ds hf false g W he)
  have HX := Lib.hid (Pk.box W pr sr ds sp dp f kd)
  have HE := Lib.hid (he.alloc (.cells (pkt pr sr ds sp dp f kd) 25))
  have HB := Lib.hid ((Below.refl _ W).alloc (Nat.le_refl _) (.cells (pkt pr sr ds sp dp f kd) 25))
  obtain ⟨x0, x1, x2, x3, x4, x5, x6⟩ := HX.out.cells
  clear he g
  go_enter Tryd.func6, Tryd.ntmps6
  go_wp2_with fail
  go_at_call 10
  refine (HG.out _ HE.out).mono ?_
  rintro e w1 ⟨rfl, hb1⟩
  have HB1 := Lib.hid (HB.out.trans (hb1.mono (by simp)))
  clear hb1 HX HE HB x0 x1 x2 x3 x4 x5 x6
  go_wp2_with fail
  go_ret2
  exact ⟨rfl, HB1.out⟩

set_option maxHeartbeats 1000000 in
theorem build_long (pr sp dp f kd : Nat) (sr ds : Int) (hf : f < 256) (A : Option Addr) (n c : Nat) (W : World) (he : Tc.Env W) (g : goodB pr sp dp f kd = true) (hc : n ≤ c) (hm : c ≤ 9223372036854775807) (hn : mx pr < n) :
    Calls Tryd.prog 6 #[.agg (pkt pr sr ds sp dp f kd), .slice A n c] W (Nil2 2 W) := by
  have HG := Lib.hid (fun W he => good_any pr sp dp f kd sr ds hf true g W he)
  have HI := Lib.hid (fun W he => inside_long pr sp dp f kd sr ds A n c W he g hc hm hn)
  have HX := Lib.hid (Pk.box W pr sr ds sp dp f kd)
  have HE := Lib.hid (he.alloc (.cells (pkt pr sr ds sp dp f kd) 25))
  have HB := Lib.hid ((Below.refl _ W).alloc (Nat.le_refl _) (.cells (pkt pr sr ds sp dp f kd) 25))
  obtain ⟨x0, x1, x2, x3, x4, x5, x6⟩ := HX.out.cells
  clear he g hn
  go_enter Tryd.func6, Tryd.ntmps6
  go_wp2_with fail
  go_at_call 10
  refine (HG.out _ HE.out).mono ?_
  rintro e w1 ⟨rfl, hb1⟩
  have HX1 := Lib.hid (HX.out.next hb1)
  have HE1 := Lib.hid (HE.out.below hb1 (Nat.le_refl _))
  have HB1 := Lib.hid (HB.out.trans (hb1.mono (by simp)))
  clear hb1 HX HE HB HG x0 x1 x2 x3 x4 x5 x6
  obtain ⟨x0, x1, x2, x3, x4, x5, x6⟩ := HX1.out.cells
  go_wp2_with fail
  go_at_call 13
  refine (HI.out _ HE1.out).mono ?_
  rintro e w2 ⟨rfl, hb2⟩
  have HB2 := Lib.hid (HB1.out.trans (hb2.mono HB1.out.size))
  clear hb2 HX1 HE1 HB1 x0 x1 x2 x3 x4 x5 x6
  go_wp2_with fail
  go_ret2
  exact ⟨rfl, HB2.out⟩

set_option maxHeartbeats 1000000 in
theorem build_ok (pr sr ds sp dp f kd : Nat) (A : Option Addr) (n c : Nat) (x : List UInt8) (B : Nat) (W : World) (hb : Bts W B A n x) (hB : B ≤ W.heap.size) (he : Tc.Env W) (g : goodB pr sp dp f kd = true) (hc : n ≤ c) (hm : c ≤ 9223372036854775807) (hn : n ≤ mx pr)
    (hpr : pr < 256) (hsr : sr < 4294967296) (hds : ds < 4294967296) (hsp : sp < 65536) (hdp : dp < 65536) (hf : f < 256) (hk : kd < 256) (L : Nat) (hL : (whole pr sr ds sp dp f kd x).length = L) :
    Calls Tryd.prog 6 #[.agg (pkt pr sr ds sp dp f kd), .slice A n c] W (InOk W L (whole pr sr ds sp dp f kd x)) := by
  obtain ⟨N, hN⟩ : ∃ N, (inner pr sr ds sp dp f kd x).length = N := ⟨_, rfl⟩
  have hN8 : N ≤ 1480 := by rw [← hN]; exact PacM.inner_len (by rw [hb.len]; exact hn)
  have HL : Hid (20 + (inner pr sr ds sp dp f kd x).length = L) := by show _ = _; rw [← hL]; unfold whole; rw [packB_len]
  have HG := Lib.hid (fun W he => good_any pr sp dp f kd sr ds hf true g W he)
  have HI := Lib.hid (fun W (hb : Bts W B A n x) hB he => inside_ok pr sr ds sp dp f kd A n c x B W hb hB he g hc hm hn hsr hds hsp hdp hk N hN)
  have HN := Lib.hid hN
  have HX := Lib.hid (Pk.box W pr sr ds sp dp f kd)
  have HE := Lib.hid (he.alloc (.cells (pkt pr sr ds sp dp f kd) 25))
  have HT := Lib.hid (hb.alloc hB (.cells (pkt pr sr ds sp dp f kd) 25))
  have HB := Lib.hid ((Below.refl _ W).alloc (Nat.le_refl _) (.cells (pkt pr sr ds sp dp f kd) 25))
  obtain ⟨x0, x1, x2, x3, x4, x5, x6⟩ := HX.out.cells
  clear he g hn hb hN hL
  unfold whole
  generalize inner pr sr ds sp dp f kd x = ins at HI HN HL ⊢
  go_enter Tryd.func6, Tryd.ntmps6
  go_wp2_with fail
  go_at_call 10
  refine (HG.out _ HE.out).mono ?_
  rintro e w1 ⟨rfl, hb1⟩
  have HX1 := Lib.hid (HX.out.next hb1)
  have HE1 := Lib.hid (HE.out.below hb1 (Nat.le_refl _))
  have HT1 := Lib.hid (HT.out.below (hb1.mono (by simp; omega)))
  have HB1 := Lib.hid (HB.out.trans (hb1.mono (by simp)))
  clear hb1 HX HE HB HG HT x0 x1 x2 x3 x4 x5 x6
  obtain ⟨x0, x1, x2, x3, x4, x5, x6⟩ := HX1.out.cells
  go_wp2_with fail
  go_at_call 13
  refine (HI.out _ HT1.out (Nat.le_trans hB HB1.out.size) HE1.out).mono ?_
  rintro e w2 ⟨g, rfl, hr, hg, hb2⟩
  have ht2 := hr.bts
  rw [HN.out] at ht2
  have HR2 := Lib.hid ht2
  have HX2 := Lib.hid (HX1.out.next hb2)
  have HB2 := Lib.hid (HB1.out.trans (hb2.mono HB1.out.size))
  clear hb2 hr ht2 hg HX1 HE1 HB1 HT1 x0 x1 x2 x3 x4 x5 x6
  obtain ⟨x0, x1, x2, x3, x4, x5, x6⟩ := HX2.out.cells
  go_wp2_with fail
  go_at_call 14
  refine (Ip.build_ok (some ⟨g, 0, none⟩) N N ins pr sr ds 64 0 0 0 _ _ HR2.out (Nat.le_refl _) (Nat.le_refl _) (by omega) hN8 hpr hsr hds (by omega) (by omega)).mono ?_
  rintro e w3 ⟨g3, rfl, hr3, hg3, hb3⟩
  rw [HL.out]
  have HR3 := Lib.hid hr3
  have hg3 : W.heap.size ≤ g3 := Nat.le_trans HB2.out.size hg3
  have HB3 := Lib.hid (HB2.out.trans (hb3.mono HB2.out.size))
  clear hb3 hr3 HX2 HB2 HR2 x0 x1 x2 x3 x4 x5 x6
  go_wp2_with fail
  go_ret2
  exact ⟨g3, rfl, HR3.out, hg3, HB3.out⟩

theorem build_any (pr sr ds sp dp f kd : Nat) (A : Option Addr) (n c : Nat) (x : List UInt8) (B : Nat) (W : World) (hb : Bts W B A n x) (hB : B ≤ W.heap.size) (he : Tc.Env W) (hc : n ≤ c) (hm : c ≤ 9223372036854775807)
    (hpr : pr < 256) (hsr : sr < 4294967296) (hds : ds < 4294967296) (hsp : sp < 65536) (hdp : dp < 65536) (hf : f < 256) (hk : kd < 256) (er N : Nat) (l : List UInt8) (her : errP pr sp dp f kd n = er) (hl : out pr sr ds sp dp f kd x = l) (hN : l.length = N) :
    Calls Tryd.prog 6 #[.agg (pkt pr sr ds sp dp f kd), .slice A n c] W (Bld W er N l) := by
  subst her hl hN
  have hx := hb.len
  by_cases g : goodB pr sp dp f kd = true
  · by_cases h : mx pr < n
    · have e2 := PacM.errP_long g h
      rw [PacM.out_bad (by rw [hx, e2]; omega), e2]
      exact (build_long pr sp dp f kd sr ds hf A n c W he g hc hm h).mono fun e w' ⟨h1, h2⟩ => ⟨none, 0, h1, Bts.empty _ _ _, ⟨by simp, by omega⟩, h2⟩
    · have e0 := PacM.errP_ok g (Nat.le_of_not_lt h)
      rw [PacM.out_ok (by rw [hx, e0]), e0]
      refine (build_ok pr sr ds sp dp f kd A n c x B W hb hB he g hc hm (Nat.le_of_not_lt h) hpr hsr hds hsp hdp hf hk _ rfl).mono ?_
      rintro e w' ⟨b, h1, h2, h3, h4⟩
      have hw := PacM.whole_len (pr := pr) (sr := sr) (ds := ds) (sp := sp) (dp := dp) (fl := f) (kd := kd) (x := x) (by omega)
      exact ⟨some ⟨b, 0, none⟩, _, h1, h2.bts, ⟨Nat.le_refl _, by omega⟩, h4⟩
  · have g : goodB pr sp dp f kd = false := by simpa using g
    have e1 := PacM.errP_bad (n := n) g
    rw [PacM.out_bad (by rw [hx, e1]; omega), e1]
    exact (build_bad pr sp dp f kd sr ds hf A n c W he g).mono fun e w' ⟨h1, h2⟩ => ⟨none, 0, h1, Bts.empty _ _ _, ⟨by simp, by omega⟩, h2⟩

end Pa
end Go.Proofs.YtapcjjhbdhkhhaaDoor
