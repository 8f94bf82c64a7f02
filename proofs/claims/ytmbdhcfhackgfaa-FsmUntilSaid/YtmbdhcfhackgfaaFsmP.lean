/- Layer 17: awake; the walk of FsmTcp. (Written by wip/tools/mkFsmP.py.) -/
import Derived.Test.YtmbdhcfhackgfaaFsmA
import Derived.Test.YtmbdhcfhackgfaaFsmB
set_option linter.unusedVariables false
set_option linter.unusedSimpArgs false
namespace Go.Proofs.Ytmbdhcfhackgfaa
open Go.ChangeShapes Go.WideShapes Go.ChangeAt Go.RowKit Go.Mtl Go.Lib
namespace Fs
open TraM (nextN nextB openN openB)

theorem open_lit (a b c d e f h : Int) (n : Int) (y : Bool) (hq : decide (0 ≤ f ∧ f ≤ 255 ∧ opN a f h = n ∧ opB a f h = y) = true) (W : World) :
    Calls Try.prog 6 #[.agg (pkc a b c d e f h)] W fun x w' => x = .returned (.tuple #[.int .i64 n, .bool y]) ∧ Below W.heap.size W w' := by
  obtain ⟨h1, h2, rfl, rfl⟩ := of_decide_eq_true hq
  exact open_any a b c d e f h ⟨h1, h2⟩ W
theorem next_lit (s : Int) (r : Bool) (a b c d e f h : Int) (n : Int) (y : Bool) (hq : decide (-9223372036854775808 ≤ s ∧ s ≤ 9223372036854775807 ∧ 0 ≤ f ∧ f ≤ 255 ∧ neN s r a f h = n ∧ neB s r a f h = y) = true) (W : World) :
    Calls Try.prog 8 #[.int .i64 s, .bool r, .agg (pkc a b c d e f h)] W fun x w' => x = .returned (.tuple #[.int .i64 n, .bool y]) ∧ Below W.heap.size W w' := by
  obtain ⟨h1, h2, h3, h4, rfl, rfl⟩ := of_decide_eq_true hq
  exact next_any s r a b c d e f h ⟨h1, h2⟩ ⟨h3, h4⟩ W
abbrev zero16 : Array Value := #[.int .i64 0, .int .i64 0, .int .i64 0, .int .i64 0, .int .i64 0, .int .i64 0, .int .i64 0, .int .i64 0, .int .i64 0, .int .i64 0, .int .i64 0, .int .i64 0, .int .i64 0, .int .i64 0, .int .i64 0, .int .i64 0]
abbrev seven16 : Array Value := #[.int .i64 0, .int .i64 0, .int .i64 0, .int .i64 7, .int .i64 0, .int .i64 0, .int .i64 0, .int .i64 0, .int .i64 0, .int .i64 0, .int .i64 0, .int .i64 0, .int .i64 0, .int .i64 0, .int .i64 0, .int .i64 0]
theorem six_zero : Six zero16 (fun _ => 0) := ⟨rfl, fun i hi => by rcases (show i = 0 ∨ i = 1 ∨ i = 2 ∨ i = 3 ∨ i = 4 ∨ i = 5 ∨ i = 6 ∨ i = 7 ∨ i = 8 ∨ i = 9 ∨ i = 10 ∨ i = 11 ∨ i = 12 ∨ i = 13 ∨ i = 14 ∨ i = 15 by omega) with rfl | rfl | rfl | rfl | rfl | rfl | rfl | rfl | rfl | rfl | rfl | rfl | rfl | rfl | rfl | rfl <;> rfl, fun i _ => ⟨by decide, by decide⟩⟩
theorem six_seven : Six seven16 (fun i => if i = 3 then 7 else 0) := ⟨rfl, fun i hi => by rcases (show i = 0 ∨ i = 1 ∨ i = 2 ∨ i = 3 ∨ i = 4 ∨ i = 5 ∨ i = 6 ∨ i = 7 ∨ i = 8 ∨ i = 9 ∨ i = 10 ∨ i = 11 ∨ i = 12 ∨ i = 13 ∨ i = 14 ∨ i = 15 by omega) with rfl | rfl | rfl | rfl | rfl | rfl | rfl | rfl | rfl | rfl | rfl | rfl | rfl | rfl | rfl | rfl <;> rfl, fun i _ => by split <;> omega⟩
theorem open_aw (W : World) : Calls Try.prog 6 #[.agg #[.int .u8 1, .int .u32 0, .int .u32 0, .int .u16 0, .int .u16 0, .int .u8 0, .int .u8 8]] W fun x w' => x = .returned (.tuple #[.int .i64 8, .bool true]) ∧ Below W.heap.size W w' :=
  open_lit 1 0 0 0 0 0 8 8 true (by decide +kernel) W
theorem next_aw1 (W : World) : Calls Try.prog 8 #[.int .i64 8, .bool true, .agg #[.int .u8 1, .int .u32 0, .int .u32 0, .int .u16 0, .int .u16 0, .int .u8 0, .int .u8 0]] W fun x w' => x = .returned (.tuple #[.int .i64 9, .bool true]) ∧ Below W.heap.size W w' :=
  next_lit 8 true 1 0 0 0 0 0 0 9 true (by decide +kernel) W
theorem next_aw2 (W : World) : Calls Try.prog 8 #[.int .i64 9, .bool false, .agg #[.int .u8 1, .int .u32 0, .int .u32 0, .int .u16 0, .int .u16 0, .int .u8 0, .int .u8 8]] W fun x w' => x = .returned (.tuple #[.int .i64 9, .bool true]) ∧ Below W.heap.size W w' :=
  next_lit 9 false 1 0 0 0 0 0 8 9 true (by decide +kernel) W
theorem next_aw3 (W : World) : Calls Try.prog 8 #[.int .i64 9, .bool true, .agg #[.int .u8 1, .int .u32 0, .int .u32 0, .int .u16 0, .int .u16 0, .int .u8 0, .int .u8 8]] W fun x w' => x = .returned (.tuple #[.int .i64 0, .bool false]) ∧ Below W.heap.size W w' :=
  next_lit 9 true 1 0 0 0 0 0 8 0 false (by decide +kernel) W
theorem until_aw1 (W : World) : Calls Try.prog 11 #[.agg #[.int .i64 0, .int .i64 0, .int .i64 0, .int .i64 7, .int .i64 0, .int .i64 0, .int .i64 0, .int .i64 0, .int .i64 0, .int .i64 0, .int .i64 0, .int .i64 0, .int .i64 0, .int .i64 0, .int .i64 0, .int .i64 0], .int .i64 3, .int .i64 5] W fun x w' => x = .returned (.int .i64 12) ∧ Below W.heap.size W w' := by
  have := until_any seven16 _ six_seven 3 5 W
  rwa [show untN (fun i => if i = 3 then 7 else 0) 3 5 = 12 by decide +kernel] at this
theorem until_aw2 (W : World) : Calls Try.prog 11 #[.agg #[.int .i64 0, .int .i64 0, .int .i64 0, .int .i64 0, .int .i64 0, .int .i64 0, .int .i64 0, .int .i64 0, .int .i64 0, .int .i64 0, .int .i64 0, .int .i64 0, .int .i64 0, .int .i64 0, .int .i64 0, .int .i64 0], .int .i64 3, .int .i64 5] W fun x w' => x = .returned (.int .i64 6) ∧ Below W.heap.size W w' := by
  have := until_any zero16 _ six_zero 3 5 W
  rwa [show untN (fun _ => 0) 3 5 = 6 by decide +kernel] at this

set_option maxHeartbeats 2000000 in
theorem awake_any (W : World) : Calls Try.prog 10 #[] W fun e w' => e = .returned (.bool true) ∧ Below W.heap.size W w' := by
  have HX0 := Lib.hid (Blk.box W (pkc 1 0 0 0 0 0 8) 25)
  have HB0 := Lib.hid (below_pk W (.cells (pkc 1 0 0 0 0 0 8) 25))
  go_enter Try.func10, Try.ntmps10
  go_wp2_with fail
  go_at_call 6
  refine (open_aw _).mono ?_
  rintro e w1 ⟨rfl, hb⟩
  have HB1 := Lib.hid (HB0.out.trans (hb.mono HB0.out.size))
  have HX1 := Lib.hid (HX0.out.next hb)
  clear hb
  skip
  obtain ⟨x0, x1, x2, x3, x4, x5, x6⟩ := pk_cells HX1.out
  go_wp2_with fail
  go_at_call 8
  refine (next_aw1 _).mono ?_
  rintro e w2 ⟨rfl, hb⟩
  have HB2 := Lib.hid (HB1.out.trans (hb.mono HB1.out.size))
  have HX2 := Lib.hid (HX1.out.next hb)
  clear hb
  clear x0 x1 x2 x3 x4 x5 x6
  obtain ⟨x0, x1, x2, x3, x4, x5, x6⟩ := pk_cells HX2.out
  go_wp2_with fail
  go_at_call 8
  refine (next_aw2 _).mono ?_
  rintro e w3 ⟨rfl, hb⟩
  have HB3 := Lib.hid (HB2.out.trans (hb.mono HB2.out.size))
  have HX3 := Lib.hid (HX2.out.next hb)
  clear hb
  clear x0 x1 x2 x3 x4 x5 x6
  obtain ⟨x0, x1, x2, x3, x4, x5, x6⟩ := pk_cells HX3.out
  go_wp2_with fail
  go_at_call 8
  refine (next_aw3 _).mono ?_
  rintro e w4 ⟨rfl, hb⟩
  have HB4 := Lib.hid (HB3.out.trans (hb.mono HB3.out.size))
  have HX4 := Lib.hid (HX3.out.next hb)
  clear hb
  go_wp2_with fail
  go_at_call 11
  refine (until_aw1 _).mono ?_
  rintro e w5 ⟨rfl, hb⟩
  have HB5 := Lib.hid (HB4.out.trans (hb.mono HB4.out.size))
  have HX5 := Lib.hid (HX4.out.next hb)
  clear hb
  go_wp2_with fail
  go_at_call 11
  refine (until_aw2 _).mono ?_
  rintro e w6 ⟨rfl, hb⟩
  have HB6 := Lib.hid (HB5.out.trans (hb.mono HB5.out.size))
  have HX6 := Lib.hid (HX5.out.next hb)
  clear hb
  go_wp2_with fail
  go_ret
  exact ⟨rfl, HB6.out⟩

end Fs
end Go.Proofs.Ytmbdhcfhackgfaa
