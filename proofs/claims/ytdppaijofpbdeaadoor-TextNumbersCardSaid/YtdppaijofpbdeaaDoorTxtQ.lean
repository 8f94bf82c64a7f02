/- Layer 11: the walks of TextLines and TextNumbers. -/
import Derived.Test.YtdppaijofpbdeaaDoorTxtP
import Derived.Test.YtdppaijofpbdeaaDoorTxtC
import Derived.Test.YtdppaijofpbdeaaDoorTxtE
set_option linter.unusedVariables false
set_option linter.unusedSimpArgs false
namespace Go.Proofs.YtdppaijofpbdeaaDoor
open Go.ChangeShapes Go.WideShapes Go.ChangeAt Go.RowKit Go.Mtl Go.Shelf Go.Lib
namespace Tx
open TxtM (Line okb errOf lineOf linesOf okN valN)

set_option maxRecDepth 100000 in
set_option maxHeartbeats 1000000 in
theorem textNumbers_walk (s : ByteArray) (w : World) (he : Env w) (hs : s.size ≤ maxLen) :
    Calls Tryd.prog 4 #[.string s] w fun e w' => e = .returned (.bool true) ∧ Below w.heap.size w w' := by
  have H1 := Lib.hid (number_any s w hs)
  have H2 := Lib.hid (refNumber_any s w hs)
  have HE := Lib.hid he
  clear he hs
  generalize (valN s.data.toList) = a at H1 H2
  generalize (okN s.data.toList) = b at H1 H2
  go_enter Tryd.func4, Tryd.ntmps4
  go_wp2_with fail
  go_at_call 10
  refine H1.out.mono ?_
  rintro e w' ⟨rfl, rfl⟩
  go_wp2_with fail
  go_at_call 11
  refine H2.out.mono ?_
  rintro e w1 ⟨rfl, hb1⟩
  have HB1 := Lib.hid hb1
  have HA := Lib.hid (awake_any w1 (HE.out.below hb1))
  clear hb1 H1 H2
  go_wp2_with fail
  go_at_call 8
  refine HA.out.mono ?_
  rintro e w2 ⟨rfl, hb2⟩
  have HB2 := Lib.hid (HB1.out.trans (hb2.mono HB1.out.size))
  clear hb2
  have hbb : (b == b) = true := beq_self_eq_true b
  go_wp2_with fail
  go_ret
  exact ⟨rfl, HB2.out⟩

set_option maxRecDepth 100000 in
set_option maxHeartbeats 1000000 in
theorem textLines_walk (s : ByteArray) (w : World) (he : Env w) (hs : s.size ≤ maxLen) :
    Calls Tryd.prog 3 #[.string s] w fun e w' => e = .returned (.bool true) ∧ Below w.heap.size w w' := by
  have H1 := Lib.hid (lines_any s w hs he)
  have H2 := Lib.hid (fun W => refLines_any s W hs)
  have HE := Lib.hid he
  have hel := TxtM.errOf_le s.data.toList
  have hnl := TxtM.lineOf_le s.data.toList
  clear he hs
  obtain ⟨l, hl⟩ : ∃ l, s.data.toList = l := ⟨_, rfl⟩
  rw [hl] at H1 H2 hel hnl
  unfold Ans at H1 H2
  generalize errOf l = a at H1 H2 hel
  generalize lineOf l = b at H1 H2 hnl
  clear hl
  go_enter Tryd.func3, Tryd.ntmps3
  go_wp2_with fail
  go_at_call 6
  refine H1.out.mono ?_
  rintro e w1 ⟨v1, rfl, hl1, hb1⟩
  have HB1 := Lib.hid hb1
  have HL1 := Lib.hid hl1
  clear hb1 hl1 H1
  go_wp2_with fail
  go_at_call 7
  refine (H2.out _).mono ?_
  rintro e w2 ⟨v2, rfl, hl2, hb2⟩
  have HB2 := Lib.hid (HB1.out.trans (hb2.mono HB1.out.size))
  have HL2 := Lib.hid hl2
  have HL1' := Lib.hid (HL1.out.below hb2)
  clear hb2 hl2 H2 HL1
  have HA := Lib.hid (awake_any w2 (HE.out.below HB2.out))
  go_wp2_with fail
  go_at_call 8
  refine HA.out.mono ?_
  rintro e w3 ⟨rfl, hb3⟩
  have HB3 := Lib.hid (HB2.out.trans (hb3.mono HB2.out.size))
  have HS := Lib.hid (same_true v1 v2 _ w3 (HL1'.out.below hb3) (HL2.out.below hb3))
  clear hb3 HA HL1' HL2
  go_wp2_with fail
  go_at_call 9
  refine HS.out.mono ?_
  rintro e w4 ⟨rfl, q, rfl⟩
  go_wp2_with fail
  go_ret
  exact ⟨rfl, HB3.out.trans ((below_drewN _ q).mono HB3.out.size)⟩
end Tx
end Go.Proofs.YtdppaijofpbdeaaDoor
