/- Layer 8: short, awake. -/
import Derived.Test.YtjbdjplliieelaaDoorWirA
set_option linter.unusedVariables false
set_option linter.unusedSimpArgs false
namespace Go.Proofs.YtjbdjplliieelaaDoor
open Go.ChangeShapes Go.WideShapes Go.ChangeAt Go.RowKit Go.Mtl
namespace Wi
open IpM (word four hs tl tl_lt word_lt four_lt errC errN body)
open WirM (errW spN dpN flN kdN pk0)
open Ip (Row)

theorem short_any (A : Option Addr) (n c : Nat) (hc : n ≤ c) (hm : c ≤ 9223372036854775807) (W : World) :
    Calls Tryd.prog 7 #[.slice A n c] W fun e w' => e = .returned (.slice A (min n 1600) c) ∧ W = w' := by
  by_cases h : 1600 < n
  · have HM : Hid (min n 1600 = 1600) := by show min n 1600 = 1600; omega
    go_enter Tryd.func7, Tryd.ntmps7
    go_wp2
    go_ret
    exact ⟨by rw [HM.out]; rfl, rfl⟩
  · have HM : Hid (min n 1600 = n) := by show min n 1600 = n; omega
    go_enter Tryd.func7, Tryd.ntmps7
    go_wp2
    go_ret
    exact ⟨by rw [HM.out]; rfl, rfl⟩

theorem parse_aw (g : Nat) (w : World) (h : Row w g pk0) (he : Tc.Env w) :
    Calls Tryd.prog 6 #[.slice (some ⟨g, 0, none⟩) 28 28] w fun e w' => e = .returned (.tuple #[.agg (pkt 17 167772161 167772162 7 9 0 0), .int .i64 0]) ∧ Below w.heap.size w w' := by
  have hp := parse_any (some ⟨g, 0, none⟩) 28 28 pk0 w.heap.size w h.bts (Nat.le_refl _) (by omega) (by omega) he
  obtain ⟨a, b, c, d, e, f, k⟩ := WirM.pk0_is
  rw [wV_ok WirM.pk0_err] at hp
  unfold okV packV at hp
  rw [a, b, c, d, e, f, k] at hp
  exact hp
theorem parse_aw1 (g : Nat) (w : World) (h : Row w g [69]) (he : Tc.Env w) :
    Calls Tryd.prog 6 #[.slice (some ⟨g, 0, none⟩) 1 1] w fun e w' => e = .returned (badV 4) ∧ Below w.heap.size w w' := by
  have hp := parse_any (some ⟨g, 0, none⟩) 1 1 [69] w.heap.size w h.bts (Nat.le_refl _) (by omega) (by omega) he
  rw [wV_bad (by rw [WirM.one_err]; omega), WirM.one_err] at hp
  exact hp

set_option maxHeartbeats 2000000 in
theorem awake_any (W : World) (he : Tc.Env W) : Calls Tryd.prog 9 #[] W fun e w' => e = .returned (.bool true) ∧ Below W.heap.size W w' := by
  go_enter Tryd.func9, Tryd.ntmps9
  go_wp2_with fail
  go_at_call 6
  have bel := (Below.refl _ W).alloc (Nat.le_refl _) (.cells (bvs pk0).toArray 5)
  refine (parse_aw W.heap.size _ (heap_alloc_new W _) (he.alloc _)).mono ?_
  rintro e w1 ⟨rfl, hb1⟩
  have HB1 := Lib.hid (bel.trans (hb1.mono (by simp)))
  have HE1 := Lib.hid ((he.alloc _).below hb1 (Nat.le_refl _))
  have HX := Lib.hid (Pk.box w1 0 0 0 0 0 0 0)
  obtain ⟨x0, x1, x2, x3, x4, x5, x6⟩ := HX.out.cells
  obtain ⟨g0, g1, g2, g3, g4, g5, g6⟩ := HX.out.frozen
  clear hb1 bel
  go_wp2_with fail
  go_at_call 6
  have HP := Lib.hid (Pk.box w1 17 167772161 167772162 7 9 0 0)
  have hbx := (Below.refl _ w1).alloc (Nat.le_refl _) (.cells (pkt 17 167772161 167772162 7 9 0 0) 26)
  have hby := (Below.refl _ (w1.alloc (.cells (pkt 17 167772161 167772162 7 9 0 0) 26))).alloc (Nat.le_refl _) (.cells #[.int .u8 69] 5)
  have HP2 := Lib.hid (HP.out.next hby)
  have hb2 := hbx.trans (hby.mono (by simp))
  have HB2 := Lib.hid (HB1.out.trans (hb2.mono HB1.out.size))
  have HE2 := Lib.hid (HE1.out.below hb2 (Nat.le_refl _))
  have hr3 : Row ((w1.alloc (.cells (pkt 17 167772161 167772162 7 9 0 0) 26)).alloc (.cells #[.int .u8 69] 5)) (w1.heap.size + 1) [69] := by
    have := heap_alloc_new (w1.alloc (.cells (pkt 17 167772161 167772162 7 9 0 0) 26)) (.cells #[.int .u8 69] 5)
    rw [World.size_alloc] at this
    exact this
  clear hbx hby hb2 HP HB1 HE1 x0 x1 x2 x3 x4 x5 x6 g0 g1 g2 g3 g4 g5 g6
  refine (parse_aw1 (w1.heap.size + 1) _ hr3 HE2.out).mono ?_
  rintro e w3 ⟨rfl, hb3⟩
  have HP3 := Lib.hid (HP2.out.next hb3)
  have HB3 := Lib.hid (HB2.out.trans (hb3.mono HB2.out.size))
  have HX3 := Lib.hid (Pk.box w3 0 0 0 0 0 0 0)
  have hbx := (Below.refl _ w3).alloc (Nat.le_refl _) (.cells (pkt 0 0 0 0 0 0 0) 26)
  have HP4 := Lib.hid (HP3.out.next hbx)
  have HB4 := Lib.hid (HB3.out.trans (hbx.mono HB3.out.size))
  clear hb3 hbx hr3 HP2 HP3 HB2 HB3
  obtain ⟨x0, x1, x2, x3, x4, x5, x6⟩ := HX3.out.cells
  obtain ⟨g0, g1, g2, g3, g4, g5, g6⟩ := HX3.out.frozen
  obtain ⟨y0, y1, y2, y3, y4, y5, y6⟩ := HP4.out.cells
  go_wp2_with fail
  go_ret
  exact ⟨rfl, HB4.out⟩

end Wi
end Go.Proofs.YtjbdjplliieelaaDoor
