/- Layer 15: the walks of FlowPacks and FlowNexts. -/
import Derived.Test.YtdjbiaifblmckaaDoorFloP
set_option linter.unusedVariables false
set_option linter.unusedSimpArgs false
namespace Go.Proofs.YtdjbiaifblmckaaDoor
open Go.ChangeShapes Go.WideShapes Go.ChangeAt Go.RowKit Go.Mtl
namespace Fl
open FloM (gI Fit)

theorem PV_is2 (c k v : Int) : ∃ x e : Int, PV c k v (.tuple #[.int .u64 x, .int .i64 e]) := by
  by_cases h : Fit c k v
  · exact ⟨_, _, PV_yes h⟩
  · exact ⟨_, _, PV_no h⟩

set_option maxHeartbeats 2000000 in
theorem flowPacks_walk (v k c w t : Int) (W : World) (he : Env W) (hb : (-9223372036854775808 ≤ v ∧ v ≤ 9223372036854775807) ∧ (-9223372036854775808 ≤ k ∧ k ≤ 9223372036854775807) ∧ -9223372036854775808 ≤ c ∧ c ≤ 9223372036854775807) (hw : 0 ≤ w ∧ w ≤ 18446744073709551615) (ht : -9223372036854775808 ≤ t ∧ t ≤ 9223372036854775807) :
    Calls Tryd.prog 3 #[.agg #[.int .i64 v, .int .i64 k, .int .i64 c], .int .u64 w, .int .i64 t] W fun e w' => e = .returned (.bool true) ∧ Below W.heap.size W w' := by
  obtain ⟨x, y, hV⟩ := PV_is2 c k v
  obtain ⟨c2, k2, v2, hf, rfl⟩ := FloM.word_is w hw.1 (by omega)
  obtain ⟨b, hob⟩ : ∃ b, overB c2 k2 v2 t = b := ⟨_, rfl⟩
  have HO := Lib.hid (over_any hf t)
  have HP := Lib.hid (refOver_any hf t)
  rw [hob] at HO HP
  have HV := Lib.hid hV
  have HF := Lib.hid hf
  have HX := Lib.hid (Blk.box W (gtc v k c) 23)
  have HB := Lib.hid ((Below.refl _ W).alloc (Nat.le_refl _) (.cells (gtc v k c) 23))
  have HE := Lib.hid (he.alloc (.cells (gtc v k c) 23))
  obtain ⟨x0, x1, x2⟩ := gt_cells HX.out
  clear hV hf hw hb he hob ht
  go_enter Tryd.func3, Tryd.ntmps3
  go_wp2_with fail
  go_at_call 7
  refine (pack_lit c k v _ HV.out _ HE.out).mono ?_
  rintro e w1 ⟨rfl, hb⟩
  have HX1 := Lib.hid (HX.out.next hb)
  have HE1 := Lib.hid (HE.out.below hb (Nat.le_refl _))
  have HB1 := Lib.hid (HB.out.trans (hb.mono HB.out.size))
  obtain ⟨x0, x1, x2⟩ := gt_cells HX1.out
  clear hb
  go_wp2_with fail
  go_at_call 8
  refine (refPack_lit c k v _ HV.out _).mono ?_
  rintro e w2 ⟨rfl, hb⟩
  have HB2 := Lib.hid (HB1.out.trans (hb.mono HB1.out.size))
  have HE2 := Lib.hid (HE1.out.below hb (Nat.le_refl _))
  clear hb
  go_wp2_with fail
  go_at_call 9
  refine (awake_any _ HE2.out).mono ?_
  rintro e w3 ⟨rfl, hb⟩
  have HB3 := Lib.hid (HB2.out.trans (hb.mono HB2.out.size))
  have HE3 := Lib.hid (HE2.out.below hb (Nat.le_refl _))
  clear hb
  go_wp2_with fail
  go_at_call 10
  refine (unpack_lit HF.out _ HE3.out).mono ?_
  rintro e w4 ⟨rfl, hb⟩
  have HB4 := Lib.hid (HB3.out.trans (hb.mono HB3.out.size))
  have HE4 := Lib.hid (HE3.out.below hb (Nat.le_refl _))
  clear hb
  go_wp2_with fail
  go_at_call 11
  refine (refUnpack_lit HF.out _).mono ?_
  rintro e w5 ⟨rfl, hb⟩
  have HB5 := Lib.hid (HB4.out.trans (hb.mono HB4.out.size))
  have HE5 := Lib.hid (HE4.out.below hb (Nat.le_refl _))
  clear hb
  go_wp2_with fail
  go_at_call 12
  refine (HO.out _ HE5.out).mono ?_
  rintro e w6 ⟨rfl, hb⟩
  have HB6 := Lib.hid (HB5.out.trans (hb.mono HB5.out.size))
  have HE6 := Lib.hid (HE5.out.below hb (Nat.le_refl _))
  clear hb
  go_wp2_with fail
  go_at_call 13
  refine (HP.out _).mono ?_
  rintro e w7 ⟨rfl, hb⟩
  have HB7 := Lib.hid (HB6.out.trans (hb.mono HB6.out.size))
  have HE7 := Lib.hid (HE6.out.below hb (Nat.le_refl _))
  clear hb
  go_wp2_with fail
  go_ret
  exact ⟨rfl, HB7.out⟩

set_option maxHeartbeats 2000000 in
theorem flowNexts_walk (w s u : Int) (W : World) (he : Env W) (hw : 0 ≤ w ∧ w ≤ 18446744073709551615) (hs : -9223372036854775808 ≤ s ∧ s ≤ 9223372036854775807) (hu : -9223372036854775808 ≤ u ∧ u ≤ 9223372036854775807) :
    Calls Tryd.prog 4 #[.int .u64 w, .int .i64 s, .int .i64 u] W fun e w' => e = .returned (.bool true) ∧ Below W.heap.size W w' := by
  obtain ⟨c, k, v, hf, rfl⟩ := FloM.word_is w hw.1 (by omega)
  have HF := Lib.hid hf
  have HE0 := Lib.hid he
  have HB0 := Lib.hid (Below.refl W.heap.size W)
  clear hf hw hs hu he
  go_enter Tryd.func4, Tryd.ntmps4
  go_wp2_with fail
  go_at_call 9
  refine (awake_any _ HE0.out).mono ?_
  rintro e w1 ⟨rfl, hb⟩
  have HB1 := Lib.hid (HB0.out.trans (hb.mono HB0.out.size))
  have HE1 := Lib.hid (HE0.out.below hb (Nat.le_refl _))
  clear hb
  go_wp2_with fail
  go_at_call 14
  refine (next_below HF.out _ _ _ HE1.out).mono ?_
  rintro e w2 ⟨rfl, hb⟩
  have HB2 := Lib.hid (HB1.out.trans (hb.mono HB1.out.size))
  have HE2 := Lib.hid (HE1.out.below hb (Nat.le_refl _))
  clear hb
  go_wp2_with fail
  go_at_call 15
  refine (refNext_any HF.out _ _ _).mono ?_
  rintro e w3 ⟨rfl, hb⟩
  have HB3 := Lib.hid (HB2.out.trans (hb.mono HB2.out.size))
  have HE3 := Lib.hid (HE2.out.below hb (Nat.le_refl _))
  clear hb
  go_wp2_with fail
  go_ret
  exact ⟨rfl, HB3.out⟩
end Fl
end Go.Proofs.YtdjbiaifblmckaaDoor
