/- Layer 7: short, awake. -/
import Derived.Test.YtpdmljpodfgdcaaIcmpE
set_option linter.unusedVariables false
set_option linter.unusedSimpArgs false
namespace Go.Proofs.Ytpdmljpodfgdcaa
open Go.ChangeShapes Go.WideShapes Go.ChangeAt Go.RowKit Go.Mtl
namespace Ic
open IcM (echoB echo_yes echo_no errI errI_le msgB msg ckI ckI_le)
open SumM (add add_le)
open IpM (word word_lt twoB)
open Ip (ret_int MadeO Row But u8_info own_bts own_lit row_of_own)

theorem text_at {w w2 : World} {B n c : Nat} {A : Option Addr} {bs : List UInt8} (h : Bts w B A n bs) (h2 : Below B w w2) :
    (convert 22 9 (.slice A n c)).run Try.prog w2 = .ok (.string (textOf bs)) w2 :=
  run_text _ _ 5 Try.underlying22 Try.underlying5 Try.underlying9 (h.below h2)

theorem short_any (A : Option Addr) (n c : Nat) (hc : n ≤ c) (hm : c ≤ 9223372036854775807) (W : World) :
    Calls Try.prog 7 #[.slice A n c] W fun e w' => e = .returned (.slice A (min n 1600) c) ∧ W = w' := by
  by_cases h : 1600 < n
  · have HM : Hid (min n 1600 = 1600) := by show min n 1600 = 1600; omega
    go_enter Try.func7, Try.ntmps7
    go_wp2
    go_ret
    exact ⟨by rw [HM.out]; rfl, rfl⟩
  · have HM : Hid (min n 1600 = n) := by show min n 1600 = n; omega
    go_enter Try.func7, Try.ntmps7
    go_wp2
    go_ret
    exact ⟨by rw [HM.out]; rfl, rfl⟩

theorem build_aw (w : World) :
    Calls Try.prog 10 #[.int .u8 8, .int .u16 1, .slice none 0 0] w fun e w' =>
      ∃ g, e = .returned (.tuple #[.slice (some ⟨g, 0, none⟩) 8 8, .int .i64 0]) ∧ Hid (Row w' g [8, 0, 247, 254, 0, 1, 0, 0]) ∧ Below w.heap.size w w' :=
  (build_ok 8 1 none 0 0 [] w.heap.size w rfl (Bts.empty _ _ _) (Nat.le_refl _) (by omega) (by omega) (by omega) (by omega) (by omega)).mono fun e w' ⟨g, he, hr, _, hb⟩ => ⟨g, he, by rw [IcM.aw1] at hr; exact hr, hb⟩
theorem parse_aw (g : Nat) (w : World) (h : Row w g [8, 0, 247, 254, 0, 1, 0, 0]) :
    Calls Try.prog 6 #[.slice (some ⟨g, 0, none⟩) 8 8] w fun e w' => e = .returned (.tuple #[.int .u8 8, .int .u16 1, .int .i64 0]) ∧ Below w.heap.size w w' :=
  parse_ok (some ⟨g, 0, none⟩) 8 8 [8, 0, 247, 254, 0, 1, 0, 0] w.heap.size w h.bts (Nat.le_refl _) (by omega) (by omega) (by rw [← IcM.aw1]; exact IcM.msg_err 8 1 [] (by omega) rfl)
theorem parse_aw2 (g : Nat) (w : World) (h : Row w g [8, 0, 0, 0, 0, 1, 0, 0]) :
    Calls Try.prog 6 #[.slice (some ⟨g, 0, none⟩) 8 8] w fun e w' => e = .returned (.tuple #[.int .u8 0, .int .u16 0, .int .i64 7]) ∧ Below w.heap.size w w' := by
  have hp := parse_bad (some ⟨g, 0, none⟩) 8 8 [8, 0, 0, 0, 0, 1, 0, 0] w.heap.size w h.bts (Nat.le_refl _) (by omega) (by omega) (by rw [IcM.aw2]; omega)
  rw [IcM.aw2] at hp
  exact hp

set_option maxHeartbeats 2000000 in
theorem awake_any (W : World) : Calls Try.prog 9 #[] W fun e w' => e = .returned (.bool true) ∧ Below W.heap.size W w' := by
  go_enter Try.func9, Try.ntmps9
  go_wp2_with fail
  go_at_call 10
  refine (build_aw W).mono ?_
  rintro e w1 ⟨g, rfl, HR1, hb1⟩
  have HB1 := Lib.hid hb1
  clear hb1
  go_wp2_with fail
  go_at_call 6
  refine (parse_aw g w1 HR1.out).mono ?_
  rintro e w2 ⟨rfl, hb2⟩
  have HB2 := Lib.hid (HB1.out.trans (hb2.mono HB1.out.size))
  have HR2 : Hid (Row w2 g [8, 0, 247, 254, 0, 1, 0, 0]) := (hb2.block g HR1.out.lt).trans HR1.out
  clear hb2 HB1 HR1
  go_wp2_with fail
  go_at_call 6
  have HR3 : Hid (Row (w2.alloc (.cells #[.int .u8 8, .int .u8 0, .int .u8 0, .int .u8 0, .int .u8 0, .int .u8 1, .int .u8 0, .int .u8 0] 5)) g [8, 0, 247, 254, 0, 1, 0, 0]) := (Below.heap_alloc w2 _ g HR2.out.lt).trans HR2.out
  have HB3 := Lib.hid (HB2.out.alloc HB2.out.size (.cells #[.int .u8 8, .int .u8 0, .int .u8 0, .int .u8 0, .int .u8 0, .int .u8 1, .int .u8 0, .int .u8 0] 5))
  refine (parse_aw2 w2.heap.size _ (heap_alloc_new w2 _)).mono ?_
  rintro e w4 ⟨rfl, hb4⟩
  have HB4 := Lib.hid (HB3.out.trans (hb4.mono HB3.out.size))
  have HR4 : Row w4 g [8, 0, 247, 254, 0, 1, 0, 0] := (hb4.block g HR3.out.lt).trans HR3.out
  have hcv := text_at (n := 8) (c := 8) HR4.bts (Below.refl _ _)
  have hr5 : Row (w4.alloc (.cells #[.int .u8 8, .int .u8 0, .int .u8 247, .int .u8 254, .int .u8 0, .int .u8 1, .int .u8 0, .int .u8 0] 5)) w4.heap.size [8, 0, 247, 254, 0, 1, 0, 0] := heap_alloc_new w4 _
  have hcv2 := text_at (n := 8) (c := 8) hr5.bts (Below.refl _ _)
  have HB5 := Lib.hid (HB4.out.alloc HB4.out.size (.cells #[.int .u8 8, .int .u8 0, .int .u8 247, .int .u8 254, .int .u8 0, .int .u8 1, .int .u8 0, .int .u8 0] 5))
  clear hb4 HB3 HR3 HB2 HR2 HB4 HR4 hr5
  go_wp2_with fail
  go_ret
  exact ⟨rfl, HB5.out⟩

end Ic
end Go.Proofs.Ytpdmljpodfgdcaa
