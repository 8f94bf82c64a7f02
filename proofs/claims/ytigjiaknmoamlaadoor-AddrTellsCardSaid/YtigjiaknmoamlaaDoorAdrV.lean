/- Layer 3: the fixed fact of package mantletlaw03 holds; the walk of AddrReads. -/
import Derived.Test.YtigjiaknmoamlaaDoorAdrU
set_option linter.unusedVariables false
set_option linter.unusedSimpArgs false
namespace Go.Proofs.YtigjiaknmoamlaaDoor
open Go.ChangeShapes Go.WideShapes Go.ChangeAt Go.RowKit Go.Mtl Go.Shelf Go.Sort Go.Lib
namespace Ad
open AdrM (byteS byteS_some byteS_le numS parseS printS validS showS hasS netS netP left right anyL pieces fold dval isDig refNum)

abbrev tAddr : ByteArray := ⟨#[49, 48, 46, 49, 46, 50, 46, 51]⟩
abbrev tNet : ByteArray := ⟨#[49, 48, 46, 48, 46, 48, 46, 48, 47, 56]⟩
abbrev tBad : ByteArray := ⟨#[49, 48, 46, 49, 46, 48, 46, 48, 47, 56]⟩
theorem aw1 (w : World) (he : Env w) : Calls Tryd.prog 7 #[.string tAddr] w fun e w' => e = .returned (.tuple #[.int .u32 167838211, .int .i64 0]) ∧ Below w.heap.size w w' := by
  have h := parse_any tAddr (by decide) w he
  rwa [parseRes_some (show parseS tAddr.data.toList = some 167838211 by decide +kernel)] at h
theorem aw2 (w : World) (he : Env w) : Calls Tryd.prog 10 #[.string tNet] w fun e w' => e = .returned (.tuple #[.agg #[.int .u32 167772160, .int .i64 8], .int .i64 0]) ∧ Below w.heap.size w w' := by
  have h := net_any tNet (by decide) w he
  rwa [show netS tNet.data.toList = some (167772160, 8) by decide +kernel] at h
theorem aw3 (w : World) (he : Env w) : Calls Tryd.prog 10 #[.string tBad] w fun e w' => e = .returned (.tuple #[.agg #[.int .u32 0, .int .i64 0], .int .i64 3]) ∧ Below w.heap.size w w' := by
  have h := net_any tBad (by decide) w he
  rwa [show netS tBad.data.toList = none by decide +kernel] at h
theorem aw4 (w : World) (he : Env w) : Calls Tryd.prog 13 #[.agg #[.int .u32 167772160, .int .i64 8]] w fun e w' => e = .returned (.tuple #[.string tNet, .int .i64 0]) ∧ Below w.heap.size w w' := by
  have h := show_any 167772160 8 (by omega) w he
  rwa [show showRes 167772160 8 = .tuple #[.string tNet, .int .i64 0] by
    unfold showRes; rw [show showS 167772160 8 = some tNet.data.toList by decide +kernel]] at h
theorem aw5 (w : World) : Calls Tryd.prog 17 #[.agg #[.int .u32 167772160, .int .i64 8], .int .u32 167838211] w fun e w' => e = .returned (.bool true) ∧ Below w.heap.size w w' := by
  have h := has_any 167772160 167838211 8 (by omega) (by omega) w
  rwa [show hasS 167772160 8 167838211 = true by decide +kernel] at h
theorem aw6 (w : World) : Calls Tryd.prog 17 #[.agg #[.int .u32 167772160, .int .i64 8], .int .u32 184549376] w fun e w' => e = .returned (.bool false) ∧ Below w.heap.size w w' := by
  have h := has_any 167772160 184549376 8 (by omega) (by omega) w
  rwa [show hasS 167772160 8 184549376 = false by decide +kernel] at h
theorem aw7 (w : World) (he : Env w) : Calls Tryd.prog 15 #[.int .u32 167838211] w fun e w' => e = .returned (.string tAddr) ∧ Below w.heap.size w w' := by
  have h := print_any 167838211 (by omega) w he
  rwa [show (⟨(printS 167838211).toArray⟩ : ByteArray) = tAddr by rw [show printS 167838211 = tAddr.data.toList by decide +kernel]] at h

set_option maxRecDepth 100000 in
set_option maxHeartbeats 4000000 in
theorem awake_any (w : World) (he : Env w) : Calls Tryd.prog 12 #[] w fun e w' => e = .returned (.bool true) ∧ Below w.heap.size w w' := by
  have HE := Lib.hid he
  clear he
  go_enter Tryd.func12, Tryd.ntmps12
  go_wp2_with fail
  go_at_call 7
  refine (aw1 _ HE.out).mono ?_
  rintro e w1 ⟨rfl, hb1⟩
  have HB1 := Lib.hid hb1
  clear hb1
  go_wp2_with fail
  go_at_call 10
  refine (aw2 _ (HE.out.below HB1.out)).mono ?_
  rintro e w2 ⟨rfl, hb2⟩
  have HB2 := Lib.hid (HB1.out.trans (hb2.mono HB1.out.size))
  have HN := Lib.hid (netAt_box w2 167772160 8)
  have HB3 := Lib.hid (HB2.out.trans (HN.out.2.2.1.mono HB2.out.size))
  clear hb2
  go_wp2_with fail
  go_at_call 10
  refine (aw3 _ (HE.out.below HB3.out)).mono ?_
  rintro e w3 ⟨rfl, hb3⟩
  have HN3 := Lib.hid ((HN.out.next hb3).next ((Below.refl _ _).alloc (Nat.le_refl _) (.cells #[.int .u32 0, .int .i64 0] 30)))
  have HB4 := Lib.hid (HB2.out.trans (HN3.out.2.2.1.mono HB2.out.size))
  have hc0 := HN3.out.1
  have hc1 := HN3.out.2.1
  clear hb3
  go_wp2_with fail
  go_at_call 13
  refine (aw4 _ (HE.out.below HB4.out)).mono ?_
  rintro e w4 ⟨rfl, hb4⟩
  have HN4 := Lib.hid (HN3.out.next hb4)
  have HB5 := Lib.hid (HB2.out.trans (HN4.out.2.2.1.mono HB2.out.size))
  clear hc0 hc1 hb4
  have hc0 := HN4.out.1
  have hc1 := HN4.out.2.1
  go_wp2_with fail
  go_at_call 17
  refine (aw5 _).mono ?_
  rintro e w5 ⟨rfl, hb5⟩
  have HN5 := Lib.hid (HN4.out.next hb5)
  have HB6 := Lib.hid (HB2.out.trans (HN5.out.2.2.1.mono HB2.out.size))
  clear hc0 hc1 hb5
  have hc0 := HN5.out.1
  have hc1 := HN5.out.2.1
  go_wp2_with fail
  go_at_call 17
  refine (aw6 _).mono ?_
  rintro e w6 ⟨rfl, hb6⟩
  have HN6 := Lib.hid (HN5.out.next hb6)
  have HB7 := Lib.hid (HB2.out.trans (HN6.out.2.2.1.mono HB2.out.size))
  clear hc0 hc1 hb6
  go_wp2_with fail
  go_at_call 15
  refine (aw7 _ (HE.out.below HB7.out)).mono ?_
  rintro e w7 ⟨rfl, hb7⟩
  have HB8 := Lib.hid (HB7.out.trans (hb7.mono HB7.out.size))
  clear hb7
  go_wp2_with fail
  go_ret
  exact ⟨rfl, HB8.out⟩

/-- What short makes of a text. -/
def shortB (s : ByteArray) : ByteArray := if 60 < s.size then s.extract 0 60 else s
theorem shortB_le (s : ByteArray) : (shortB s).size ≤ 1000000 := by
  unfold shortB
  split
  · simp [ByteArray.size_extract]; omega
  · omega
theorem short_any (s : ByteArray) (w : World) : Calls Tryd.prog 8 #[.string s] w fun e w' => e = .returned (.string (shortB s)) ∧ w = w' := by
  by_cases h : 60 < s.size
  · have HS : Hid (shortB s = s.extract 0 60) := by show _ = _; unfold shortB; rw [if_pos h]
    go_enter Tryd.func8, Tryd.ntmps8
    go_wp2_with fail
    go_ret
    exact ⟨by rw [HS.out]; rfl, rfl⟩
  · have HS : Hid (shortB s = s) := by show _ = _; unfold shortB; rw [if_neg h]
    have h' : s.size ≤ 60 := by omega
    clear h
    go_enter Tryd.func8, Tryd.ntmps8
    go_wp2_with fail
    go_ret
    exact ⟨by rw [HS.out]; rfl, rfl⟩

end Ad
end Go.Proofs.YtigjiaknmoamlaaDoor
