/- Layer 9: short, awake; a packet that was built, parsed. -/
import Derived.Test.YtapcjjhbdhkhhaaDoorPacB
import Derived.Deep.RegionHeld3
set_option linter.unusedVariables false
set_option linter.unusedSimpArgs false
namespace Go.Proofs.YtapcjjhbdhkhhaaDoor
open Go.ChangeShapes Go.WideShapes Go.ChangeAt Go.RowKit Go.Mtl
namespace Pa
open PacM (goodB inner whole mx errP out)
open IpM (four)
open WirM (errW spN dpN flN kdN)
open Wi (Pk pkt wV)
open Ip (ret_int Row)

theorem short_any (A : Option Addr) (n c : Nat) (hc : n ≤ c) (hm : c ≤ 9223372036854775807) (W : World) :
    Calls Tryd.prog 7 #[.slice A n c] W fun e w' => e = .returned (.slice A (min n 1600) c) ∧ W = w' := by
  by_cases h : 1600 < n
  · have HM : Hid (min n 1600 = 1600) := by show min n 1600 = 1600; omega
    go_enter Tryd.func7, Tryd.ntmps7
    go_wp2
    go_ret
    exact ⟨by rw [HM.out]; rfl, rfl⟩
  · have HM : Hid (min n 1600 = n) := by show min n 1600 = n; omega
    go_enter Tryd.func7, Tryd.ntmps7
    go_wp2
    go_ret
    exact ⟨by rw [HM.out]; rfl, rfl⟩

/-- What a region keeps: the cells of a packet's block, and all that was there at its start. -/
abbrev SP (U w' : World) (g : Nat) (a b c d e f h : Int) : Prop :=
  w'.cell? ⟨g, 0, none⟩ = some (.int .u8 a) ∧ w'.cell? ⟨g, 1, none⟩ = some (.int .u32 b) ∧ w'.cell? ⟨g, 2, none⟩ = some (.int .u32 c) ∧ w'.cell? ⟨g, 3, none⟩ = some (.int .u16 d) ∧
  w'.cell? ⟨g, 4, none⟩ = some (.int .u16 e) ∧ w'.cell? ⟨g, 5, none⟩ = some (.int .u8 f) ∧ w'.cell? ⟨g, 6, none⟩ = some (.int .u8 h) ∧ Hid (Pk w' g a b c d e f h ∧ Below U.heap.size U w')
section
variable {U w' w2 : World} {g : Nat} {a b c d e f h : Int}
theorem SP.mk (H : Hid (Pk w' g a b c d e f h ∧ Below U.heap.size U w')) : SP U w' g a b c d e f h := by
  obtain ⟨h0, h1, h2, h3, h4, h5, h6⟩ := H.out.1.cells
  exact ⟨h0, h1, h2, h3, h4, h5, h6, H⟩
theorem SP.start (H : Pk U g a b c d e f h) : SP U U g a b c d e f h := SP.mk ⟨H, Below.refl _ _⟩
theorem SP.pk (H : SP U w' g a b c d e f h) : Pk w' g a b c d e f h := H.2.2.2.2.2.2.2.out.1
theorem SP.bel (H : SP U w' g a b c d e f h) : Below U.heap.size U w' := H.2.2.2.2.2.2.2.out.2
theorem SP.drew (H : SP U w' g a b c d e f h) : SP U w'.drew g a b c d e f h := SP.mk ⟨H.pk, H.bel.drew⟩
theorem SP.next (H : SP U w' g a b c d e f h) (hb : Hid (Below w'.heap.size w' w2)) : SP U w2 g a b c d e f h := SP.mk ⟨H.pk.next hb.out, H.bel.trans (hb.out.mono H.bel.size)⟩
end

abbrev okP (pr sr ds sp dp f kd : Int) : Value := .tuple #[.agg (pkt pr sr ds sp dp f kd), .int .i64 0]
theorem wV_whole {pr sr ds sp dp f kd : Nat} {x : List UInt8} (h : errP pr sp dp f kd x.length = 0) (hpr : pr < 256) (hsr : sr < 4294967296) (hds : ds < 4294967296) (hsp : sp < 65536) (hdp : dp < 65536) (hk : kd < 256) :
    wV (whole pr sr ds sp dp f kd x) = okP pr sr ds sp dp f kd := by
  obtain ⟨a0, a1, a2, a3, a4, a5, a6, a7⟩ := PacM.whole_is h hpr hsr hds hsp hdp hk
  rw [Wi.wV_ok a0]
  unfold Wi.okV Wi.packV
  rw [a1, a2, a3, a4, a5, a6, a7]

theorem build_aw (g0 : Nat) (w : World) (h : Row w g0 [7, 8, 9]) (he : Tc.Env w) :
    Calls Tryd.prog 6 #[.agg (pkt 17 1 2 3 4 0 0), .slice (some ⟨g0, 0, none⟩) 3 3] w (Bld w 0 31 (whole 17 1 2 3 4 0 0 [7, 8, 9])) :=
  build_any 17 1 2 3 4 0 0 (some ⟨g0, 0, none⟩) 3 3 [7, 8, 9] w.heap.size w h.bts (Nat.le_refl _) he (by omega) (by omega) (by omega) (by omega) (by omega) (by omega) (by omega) (by omega) (by omega) 0 31 _ (by rfl) (PacM.out_ok rfl) (PacM.aw_len _ _ _ _ _ rfl)
theorem build_aw2 (w : World) (he : Tc.Env w) : Calls Tryd.prog 6 #[.agg (pkt 2 0 0 0 0 0 0), .slice none 0 0] w (Nil2 1 w) :=
  build_bad 2 0 0 0 0 0 0 (by omega) none 0 0 w he PacM.aw_bad
theorem good_aw (w : World) (he : Tc.Env w) : Calls Tryd.prog 10 #[.agg (pkt 17 1 2 3 4 0 0)] w fun e w' => e = .returned (.bool true) ∧ Below w.heap.size w w' :=
  good_any 17 3 4 0 0 1 2 (by omega) true PacM.aw_good w he
theorem parse_aw (A : Option Addr) (c : Nat) (w : World) (h : Bts w w.heap.size A 31 (whole 17 1 2 3 4 0 0 [7, 8, 9])) (hc : 31 ≤ c ∧ c ≤ 9223372036854775807) (he : Tc.Env w) :
    Calls Tryd.prog 12 #[.slice A 31 c] w fun e w' => e = .returned (okP 17 1 2 3 4 0 0) ∧ Below w.heap.size w w' := by
  have := Wi.parse_any A 31 c _ w.heap.size w h (Nat.le_refl _) hc.1 hc.2 he
  rw [wV_whole (by rfl) (by omega) (by omega) (by omega) (by omega) (by omega) (by omega)] at this
  exact this

set_option maxHeartbeats 2000000 in
theorem awake_any (W : World) (he : Tc.Env W) : Calls Tryd.prog 9 #[] W fun e w' => e = .returned (.bool true) ∧ Below W.heap.size W w' := by
  have HX := Lib.hid (Pk.box W 0 0 0 0 0 0 0)
  obtain ⟨x0, x1, x2, x3, x4, x5, x6⟩ := HX.out.cells
  obtain ⟨g0, g1, g2, g3, g4, g5, g6⟩ := HX.out.frozen
  have HP := Lib.hid (Pk.box W 17 1 2 3 4 0 0)
  have HB := Lib.hid ((Below.refl _ W).alloc (Nat.le_refl _) (.cells (pkt 17 1 2 3 4 0 0) 25))
  have HE := Lib.hid (he.alloc (.cells (pkt 17 1 2 3 4 0 0) 25))
  go_enter Tryd.func9, Tryd.ntmps9
  go_wp2_with fail
  go_at_call 6
  have hr3 : Row ((W.alloc (.cells (pkt 17 1 2 3 4 0 0) 25)).alloc (.cells #[.int .u8 7, .int .u8 8, .int .u8 9] 5)) (W.heap.size + 1) [7, 8, 9] := by
    have := heap_alloc_new (W.alloc (.cells (pkt 17 1 2 3 4 0 0) 25)) (.cells #[.int .u8 7, .int .u8 8, .int .u8 9] 5)
    rw [World.size_alloc] at this
    exact this
  have hby := (Below.refl _ (W.alloc (.cells (pkt 17 1 2 3 4 0 0) 25))).alloc (Nat.le_refl _) (.cells #[.int .u8 7, .int .u8 8, .int .u8 9] 5)
  have HP1 := Lib.hid (HP.out.next hby)
  have HB1 := Lib.hid (HB.out.trans (hby.mono HB.out.size))
  have HE1 := Lib.hid (HE.out.below hby (Nat.le_refl _))
  clear hby HX HP HB HE x0 x1 x2 x3 x4 x5 x6 g0 g1 g2 g3 g4 g5 g6
  refine (build_aw (W.heap.size + 1) _ hr3 HE1.out).mono ?_
  rintro e w2 ⟨A2, c2, rfl, HT2, HC2, HB2⟩
  have HP2 := Lib.hid (HP1.out.next HB2.out)
  have HE2 := Lib.hid (HE1.out.below HB2.out (Nat.le_refl _))
  have HB2 := Lib.hid (HB1.out.trans (HB2.out.mono HB1.out.size))
  clear hr3 HP1 HE1 HB1
  go_wp2_with fail
  go_at_call 12
  refine (parse_aw A2 c2 _ HT2.out HC2.out HE2.out).mono ?_
  rintro e w3 ⟨rfl, hb3⟩
  have hbx := (Below.refl _ w3).alloc (Nat.le_refl _) (.cells (pkt 17 1 2 3 4 0 0) 25)
  have HX3 := Lib.hid (Pk.box w3 0 0 0 0 0 0 0)
  have HQ3 := Lib.hid (Pk.box w3 17 1 2 3 4 0 0)
  have HP3 := Lib.hid ((HP2.out.next hb3).next hbx)
  have HE3 := Lib.hid ((HE2.out.below hb3 (Nat.le_refl _)).below hbx (Nat.le_refl _))
  have hb23 := HB2.out.trans (hb3.mono HB2.out.size)
  have HB3 := Lib.hid (hb23.trans (hbx.mono hb23.size))
  clear hb3 hbx hb23 HP2 HE2 HB2 HT2 HC2
  obtain ⟨x0, x1, x2, x3, x4, x5, x6⟩ := HX3.out.cells
  obtain ⟨g0, g1, g2, g3, g4, g5, g6⟩ := HX3.out.frozen
  go_wp2_with fail
  go_at_call 6
  refine (build_aw2 _ HE3.out).mono ?_
  rintro e w4 ⟨rfl, hb4⟩
  have HQ4 := Lib.hid (HQ3.out.next hb4)
  have HP4 := Lib.hid (HP3.out.next hb4)
  have HE4 := Lib.hid (HE3.out.below hb4 (Nat.le_refl _))
  have HB4 := Lib.hid (HB3.out.trans (hb4.mono HB3.out.size))
  clear hb4 HX3 HQ3 HP3 HE3 HB3 x0 x1 x2 x3 x4 x5 x6 g0 g1 g2 g3 g4 g5 g6
  obtain ⟨x0, x1, x2, x3, x4, x5, x6⟩ := HP4.out.cells
  obtain ⟨y0, y1, y2, y3, y4, y5, y6⟩ := HQ4.out.cells
  go_wp2_with fail
  go_at_call 10
  refine (good_aw _ HE4.out).mono ?_
  rintro e w5 ⟨rfl, hb5⟩
  have HB5 := Lib.hid (HB4.out.trans (hb5.mono HB4.out.size))
  clear hb5 HQ4 HP4 HE4 HB4
  go_wp2_with fail
  go_ret
  exact ⟨rfl, HB5.out⟩

end Pa
end Go.Proofs.YtapcjjhbdhkhhaaDoor
