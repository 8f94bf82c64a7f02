/- Layer 9: the contracts of Good and isEcho of package pack. -/
import Derived.Test.YtapcjjhbdhkhhaaDoorPacM
import Derived.Test.YtapcjjhbdhkhhaaDoorWirA
set_option linter.unusedVariables false
set_option linter.unusedSimpArgs false
namespace Go.Proofs.YtapcjjhbdhkhhaaDoor
open Go.ChangeShapes Go.WideShapes Go.ChangeAt Go.RowKit Go.Mtl
namespace Pa
open TcpM (saneB)
open IcM (echoB echo_yes echo_no)
open PacM (goodB)
open Wi (Pk pkt)
open Ip (ret_int)

theorem isEcho_any (kd : Nat) (b : Bool) (hb : echoB kd = b) (W : World) :
    Calls Tryd.prog 20 #[.int .u8 (kd : Int)] W fun e w' => e = .returned (.bool b) ∧ W = w' := by
  cases b
  · obtain ⟨h8, h0⟩ := echo_no hb
    have d8 : ((kd : Int) == 8) = false := by simp; omega
    have d0 : ((kd : Int) == 0) = false := by simp; omega
    clear hb h8 h0
    go_enter Tryd.func20, Tryd.ntmps20
    go_wp2_with fail
    go_ret
    exact ⟨rfl, rfl⟩
  · rcases echo_yes hb with rfl | rfl
    · go_enter Tryd.func20, Tryd.ntmps20
      go_wp2_with fail
      go_ret
      exact ⟨rfl, rfl⟩
    · go_enter Tryd.func20, Tryd.ntmps20
      go_wp2_with fail
      go_ret
      exact ⟨rfl, rfl⟩

theorem ignored_is (f : Nat) (h : f < 256) : (bits .and .u8 (f : Int) 192 == 0) = decide (f < 64) := by
  have : ∀ a : Fin 256, (bits .and .u8 (a.val : Int) 192 == 0) = decide (a.val < 64) := by decide +kernel
  exact this ⟨f, h⟩

set_option maxHeartbeats 1000000 in
theorem good6 (sr ds sp dp : Int) (f kd : Nat) (hf : f < 256) (W : World) (he : Tc.Env W) (s a b : Bool) (hs : saneB f = s) (ha : decide (f < 64) = a) (hb : decide (kd = 0) = b) :
    Calls Tryd.prog 10 #[.agg (pkt 6 sr ds sp dp f kd)] W fun e w' => e = .returned (.bool (s && a && b)) ∧ Below W.heap.size W w' := by
  have HS := Lib.hid (fun W he => Tc.sane_any f hf s hs W he)
  have da := (ignored_is f hf).trans ha
  have db : ((kd : Int) == 0) = b := by rw [← hb]; cases h : decide (kd = 0) <;> simp_all
  have HX := Lib.hid (Pk.box W 6 sr ds sp dp f kd)
  have HE := Lib.hid (he.alloc (.cells (pkt 6 sr ds sp dp f kd) 25))
  have HB := Lib.hid ((Below.refl _ W).alloc (Nat.le_refl _) (.cells (pkt 6 sr ds sp dp f kd) 25))
  obtain ⟨x0, x1, x2, x3, x4, x5, x6⟩ := HX.out.cells
  clear he hs ha hb
  go_enter Tryd.func10, Tryd.ntmps10
  go_wp2_with fail
  go_at_call 19
  refine (HS.out _ HE.out).mono ?_
  rintro e w1 ⟨rfl, hb1⟩
  have HX1 := Lib.hid (HX.out.next hb1)
  have HB1 := Lib.hid (HB.out.trans (hb1.mono (by simp)))
  clear hb1 HS HX HE HB x0 x1 x2 x3 x4 x5 x6
  obtain ⟨x0, x1, x2, x3, x4, x5, x6⟩ := HX1.out.cells
  cases s <;> cases a <;> cases b
  all_goals
    go_wp2_with fail
    go_ret
    exact ⟨rfl, HB1.out⟩

set_option maxHeartbeats 1000000 in
theorem good17 (sr ds sp dp : Int) (f kd : Nat) (W : World) (a b : Bool) (ha : decide (f = 0) = a) (hb : decide (kd = 0) = b) :
    Calls Tryd.prog 10 #[.agg (pkt 17 sr ds sp dp f kd)] W fun e w' => e = .returned (.bool (a && b)) ∧ Below W.heap.size W w' := by
  have da : ((f : Int) == 0) = a := by rw [← ha]; cases h : decide (f = 0) <;> simp_all
  have db : ((kd : Int) == 0) = b := by rw [← hb]; cases h : decide (kd = 0) <;> simp_all
  have HX := Lib.hid (Pk.box W 17 sr ds sp dp f kd)
  have HB := Lib.hid ((Below.refl _ W).alloc (Nat.le_refl _) (.cells (pkt 17 sr ds sp dp f kd) 25))
  obtain ⟨x0, x1, x2, x3, x4, x5, x6⟩ := HX.out.cells
  clear ha hb
  cases a <;> cases b
  all_goals
    go_enter Tryd.func10, Tryd.ntmps10
    go_wp2_with fail
    go_ret
    exact ⟨rfl, HB.out⟩

set_option maxHeartbeats 1000000 in
theorem good1 (sr ds sp dp : Int) (f kd : Nat) (W : World) (k a b : Bool) (hk : echoB kd = k) (ha : decide (f = 0) = a) (db : (sp == dp) = b) :
    Calls Tryd.prog 10 #[.agg (pkt 1 sr ds sp dp f kd)] W fun e w' => e = .returned (.bool (k && a && b)) ∧ Below W.heap.size W w' := by
  have HK := Lib.hid (fun W => isEcho_any kd k hk W)
  have da : ((f : Int) == 0) = a := by rw [← ha]; cases h : decide (f = 0) <;> simp_all
  have HX := Lib.hid (Pk.box W 1 sr ds sp dp f kd)
  have HB := Lib.hid ((Below.refl _ W).alloc (Nat.le_refl _) (.cells (pkt 1 sr ds sp dp f kd) 25))
  obtain ⟨x0, x1, x2, x3, x4, x5, x6⟩ := HX.out.cells
  clear hk ha
  cases k <;> cases a <;> cases b
  all_goals
    go_enter Tryd.func10, Tryd.ntmps10
    go_wp2_with (go_at_call 20; refine (HK.out _).mono ?_; rintro e w' ⟨rfl, rfl⟩)
    go_ret
    exact ⟨rfl, HB.out⟩

theorem good0 (pr : Nat) (h6 : pr ≠ 6) (h17 : pr ≠ 17) (h1 : pr ≠ 1) (sr ds sp dp f kd : Int) (W : World) :
    Calls Tryd.prog 10 #[.agg (pkt pr sr ds sp dp f kd)] W fun e w' => e = .returned (.bool false) ∧ Below W.heap.size W w' := by
  have d6 : ((pr : Int) == 6) = false := by simp; omega
  have d17 : ((pr : Int) == 17) = false := by simp; omega
  have d1 : ((pr : Int) == 1) = false := by simp; omega
  have HX := Lib.hid (Pk.box W pr sr ds sp dp f kd)
  have HB := Lib.hid ((Below.refl _ W).alloc (Nat.le_refl _) (.cells (pkt pr sr ds sp dp f kd) 25))
  obtain ⟨x0, x1, x2, x3, x4, x5, x6⟩ := HX.out.cells
  clear h6 h17 h1
  go_enter Tryd.func10, Tryd.ntmps10
  go_wp2_with fail
  go_ret
  exact ⟨rfl, HB.out⟩

theorem good_any (pr sp dp f kd : Nat) (sr ds : Int) (hf : f < 256) (g : Bool) (hg : goodB pr sp dp f kd = g) (W : World) (he : Tc.Env W) :
    Calls Tryd.prog 10 #[.agg (pkt pr sr ds sp dp f kd)] W fun e w' => e = .returned (.bool g) ∧ Below W.heap.size W w' := by
  subst hg
  unfold goodB
  by_cases h6 : pr = 6
  · subst h6; rw [if_pos rfl]; exact good6 sr ds sp dp f kd hf W he _ _ _ rfl rfl rfl
  rw [if_neg h6]
  by_cases h17 : pr = 17
  · subst h17; rw [if_pos rfl]; exact good17 sr ds sp dp f kd W _ _ rfl rfl
  rw [if_neg h17]
  by_cases h1 : pr = 1
  · subst h1; rw [if_pos rfl]; exact good1 sr ds sp dp f kd W _ _ _ rfl rfl (by by_cases h : sp = dp <;> simp [h] <;> omega)
  rw [if_neg h1]
  exact good0 pr h6 h17 h1 sr ds sp dp f kd W

end Pa
end Go.Proofs.YtapcjjhbdhkhhaaDoor
