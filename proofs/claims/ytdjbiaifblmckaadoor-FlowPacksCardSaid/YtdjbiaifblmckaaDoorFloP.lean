/- Layer 15: awake; the contracts as a law's walk wants them (each answer with its frame). -/
import Derived.Test.YtdjbiaifblmckaaDoorFloD
set_option linter.unusedVariables false
set_option linter.unusedSimpArgs false
namespace Go.Proofs.YtdjbiaifblmckaaDoor
open Go.ChangeShapes Go.WideShapes Go.ChangeAt Go.RowKit Go.Mtl
namespace Fl
open FloM (gI Fit)

/-- .. the struct written out, as a walk wants it. -/
theorem unpack_lit {c k v : Int} (h : Fit c k v) (W : World) (he : Env W) :
    Calls Tryd.prog 10 #[.int .u64 (gI c k v)] W fun e w' => e = .returned (.agg #[.int .i64 v, .int .i64 k, .int .i64 c]) ∧ Below W.heap.size W w' := unpack_any h W he
theorem refUnpack_lit {c k v : Int} (h : Fit c k v) (W : World) :
    Calls Tryd.prog 11 #[.int .u64 (gI c k v)] W fun e w' => e = .returned (.agg #[.int .i64 v, .int .i64 k, .int .i64 c]) ∧ Below W.heap.size W w' := refUnpack_any h W
theorem pack_lit (c k v : Int) (V : Value) (hV : PV c k v V) (W : World) (he : Env W) :
    Calls Tryd.prog 7 #[.agg #[.int .i64 v, .int .i64 k, .int .i64 c]] W fun e w' => e = .returned V ∧ Below W.heap.size W w' := pack_any c k v V hV W he
theorem refPack_lit (c k v : Int) (V : Value) (hV : PV c k v V) (W : World) :
    Calls Tryd.prog 8 #[.agg #[.int .i64 v, .int .i64 k, .int .i64 c]] W fun e w' => e = .returned V ∧ Below W.heap.size W w' := refPack_any c k v V hV W
theorem next_below {c k v : Int} (h : Fit c k v) (s u : Int) (W : World) (he : Env W) :
    Calls Tryd.prog 14 #[.int .u64 (gI c k v), .int .i64 s, .int .i64 u] W fun e w' => e = .returned (.int .u64 (gI (clip u) (up k) (s % 16))) ∧ Below W.heap.size W w' := quiet_below (next_any h s u W he)
theorem PV_yes {c k v : Int} (h : Fit c k v) : PV c k v (.tuple #[.int .u64 (gI c k v), .int .i64 0]) := ⟨fun _ => rfl, fun h' => absurd h h'⟩
theorem PV_no {c k v : Int} (h : ¬ Fit c k v) : PV c k v (.tuple #[.int .u64 0, .int .i64 1]) := ⟨fun h' => absurd h' h, fun _ => rfl⟩

/-- The first, second field of a flow that a call has handed back. -/
theorem field0 (a b c : Value) (w : World) : (Instr.field 23 (.agg #[a, b, c]) 0).run Tryd.prog w = .ok a w := by kernel_rfl
theorem field1 (a b c : Value) (w : World) : (Instr.field 23 (.agg #[a, b, c]) 1).run Tryd.prog w = .ok b w := by kernel_rfl
theorem fit000 : Fit 0 0 0 := ⟨by omega, by omega, by omega, by omega, by omega, by omega⟩
theorem fit511 : Fit 5 1 1 := ⟨by omega, by omega, by omega, by omega, by omega, by omega⟩
theorem fitDead : Fit 0 0 15 := ⟨by omega, by omega, by omega, by omega, by omega, by omega⟩
theorem next_aw (W : World) (he : Env W) : Calls Tryd.prog 14 #[.int .u64 0, .int .i64 1, .int .i64 5] W fun e w' => e = .returned (.int .u64 (gI 5 1 1)) ∧ Below W.heap.size W w' :=
  next_below fit000 1 5 W he
theorem pack_aw (W : World) (he : Env W) : Calls Tryd.prog 7 #[.agg #[.int .i64 1, .int .i64 1, .int .i64 5]] W fun e w' => e = .returned (.tuple #[.int .u64 (gI 5 1 1), .int .i64 0]) ∧ Below W.heap.size W w' :=
  pack_any 5 1 1 _ (PV_yes fit511) W he
theorem over_aw1 (W : World) (he : Env W) : Calls Tryd.prog 12 #[.int .u64 (gI 5 1 1), .int .i64 5] W fun e w' => e = .returned (.bool true) ∧ Below W.heap.size W w' := over_any fit511 5 W he
theorem over_aw2 (W : World) (he : Env W) : Calls Tryd.prog 12 #[.int .u64 (gI 5 1 1), .int .i64 4] W fun e w' => e = .returned (.bool false) ∧ Below W.heap.size W w' := over_any fit511 4 W he
theorem over_aw3 (W : World) (he : Env W) : Calls Tryd.prog 12 #[.int .u64 (gI 0 0 15), .int .i64 0] W fun e w' => e = .returned (.bool true) ∧ Below W.heap.size W w' := over_any fitDead 0 W he
theorem over_aw4 (W : World) (he : Env W) : Calls Tryd.prog 12 #[.int .u64 0, .int .i64 (-1)] W fun e w' => e = .returned (.bool true) ∧ Below W.heap.size W w' := over_any fit000 (-1) W he
set_option maxHeartbeats 2000000 in
theorem awake_any (W : World) (he : Env W) : Calls Tryd.prog 9 #[] W fun e w' => e = .returned (.bool true) ∧ Below W.heap.size W w' := by
  have d0 : (gI 5 1 1 == 1152922604118474757) = true := by decide
  have d9 := field0
  have HE0 := Lib.hid he
  have HB0 := Lib.hid (Below.refl W.heap.size W)
  clear he
  go_enter Tryd.func9, Tryd.ntmps9
  go_wp2_with fail
  go_at_call 14
  refine (next_aw _ HE0.out).mono ?_
  rintro e w1 ⟨rfl, hb⟩
  have HB1 := Lib.hid (HB0.out.trans (hb.mono HB0.out.size))
  have HE1 := Lib.hid (HE0.out.below hb (Nat.le_refl _))
  clear hb
  go_wp2_with fail
  go_at_call 7
  refine (pack_aw _ HE1.out).mono ?_
  rintro e w2 ⟨rfl, hb⟩
  have HB2 := Lib.hid (HB1.out.trans (hb.mono HB1.out.size))
  have HE2 := Lib.hid (HE1.out.below hb (Nat.le_refl _))
  clear hb
  go_wp2_with fail
  go_at_call 12
  refine (over_aw1 _ HE2.out).mono ?_
  rintro e w3 ⟨rfl, hb⟩
  have HB3 := Lib.hid (HB2.out.trans (hb.mono HB2.out.size))
  have HE3 := Lib.hid (HE2.out.below hb (Nat.le_refl _))
  clear hb
  go_wp2_with fail
  go_at_call 12
  refine (over_aw2 _ HE3.out).mono ?_
  rintro e w4 ⟨rfl, hb⟩
  have HB4 := Lib.hid (HB3.out.trans (hb.mono HB3.out.size))
  have HE4 := Lib.hid (HE3.out.below hb (Nat.le_refl _))
  clear hb
  go_wp2_with fail
  go_at_call 17
  refine (quiet_below (dead_any _ HE4.out)).mono ?_
  rintro e w5 ⟨rfl, hb⟩
  have HB5 := Lib.hid (HB4.out.trans (hb.mono HB4.out.size))
  have HE5 := Lib.hid (HE4.out.below hb (Nat.le_refl _))
  clear hb
  go_wp2_with fail
  go_at_call 12
  refine (over_aw3 _ HE5.out).mono ?_
  rintro e w6 ⟨rfl, hb⟩
  have HB6 := Lib.hid (HB5.out.trans (hb.mono HB5.out.size))
  have HE6 := Lib.hid (HE5.out.below hb (Nat.le_refl _))
  clear hb
  go_wp2_with fail
  go_at_call 17
  refine (quiet_below (dead_any _ HE6.out)).mono ?_
  rintro e w7 ⟨rfl, hb⟩
  have HB7 := Lib.hid (HB6.out.trans (hb.mono HB6.out.size))
  have HE7 := Lib.hid (HE6.out.below hb (Nat.le_refl _))
  clear hb
  go_wp2_with fail
  go_at_call 10
  refine (unpack_lit fitDead _ HE7.out).mono ?_
  rintro e w8 ⟨rfl, hb⟩
  have HB8 := Lib.hid (HB7.out.trans (hb.mono HB7.out.size))
  have HE8 := Lib.hid (HE7.out.below hb (Nat.le_refl _))
  clear hb
  go_wp2_with fail
  go_at_call 12
  refine (over_aw4 _ HE8.out).mono ?_
  rintro e w9 ⟨rfl, hb⟩
  have HB9 := Lib.hid (HB8.out.trans (hb.mono HB8.out.size))
  have HE9 := Lib.hid (HE8.out.below hb (Nat.le_refl _))
  clear hb
  go_wp2_with fail
  go_ret
  exact ⟨rfl, HB9.out⟩
end Fl
end Go.Proofs.YtdjbiaifblmckaaDoor
