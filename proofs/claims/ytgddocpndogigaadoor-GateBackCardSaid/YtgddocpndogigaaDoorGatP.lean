/- Layer 14: awake; the contracts as a law's walk wants them (each answer under a name, with its frame). -/
import Derived.Test.YtgddocpndogigaaDoorGatD
set_option linter.unusedVariables false
set_option linter.unusedSimpArgs false
namespace Go.Proofs.YtgddocpndogigaaDoor
open Go.ChangeShapes Go.WideShapes Go.ChangeAt Go.RowKit Go.Mtl
namespace Ga
open GatM (gI Fit)

theorem quiet_below {P : Program} {f : FuncId} {args : Array Value} {w : World} {v : Value} (h : Calls P f args w fun e w' => e = .returned v ∧ ∃ n, w' = w.drewN n) : Calls P f args w fun e w' => e = .returned v ∧ Below w.heap.size w w' :=
  h.mono fun _ _ ⟨a, n, b⟩ => ⟨a, b ▸ (Below.refl _ w).drews n⟩

/-- A step that may be refused: the word behind it, and whether it was taken. -/
structure Step (c k v : Int) (ok : Bool) (c' k' v' : Int) (x : Prop) : Prop where
  fit : Fit c' k' v'
  no : ok = false → c' = c ∧ k' = k ∧ v' = v ∧ ¬ x
  yes : ok = true → x
abbrev stepV (ok : Bool) (c k v : Int) : Value := .tuple #[.int .u64 (gI c k v), .bool ok]

/-- Enter's answer: whether, and the count behind it. -/
def EN (k l : Int) (ok : Bool) (k' : Int) : Prop := ok = true ∧ k' = k + 1 ∧ ¬ l ≤ k ∧ k ≠ 4095 ∨ ok = false ∧ k' = k ∧ (l ≤ k ∨ k = 4095)
def LV (k : Int) (ok : Bool) (k' : Int) : Prop := ok = true ∧ k' = k - 1 ∧ k ≠ 0 ∨ ok = false ∧ k' = k ∧ k = 0
def SW (v : Int) (ok : Bool) (v' : Int) : Prop := ok = true ∧ v' = v + 1 ∧ v ≠ 4095 ∨ ok = false ∧ v' = v ∧ v = 4095
theorem EN_is (k l : Int) : ∃ ok k', EN k l ok k' := by
  by_cases h : l ≤ k
  · exact ⟨false, k, .inr ⟨rfl, rfl, .inl h⟩⟩
  · by_cases h2 : k = 4095
    · exact ⟨false, k, .inr ⟨rfl, rfl, .inr h2⟩⟩
    · exact ⟨true, k + 1, .inl ⟨rfl, rfl, h, h2⟩⟩
theorem LV_is (k : Int) : ∃ ok k', LV k ok k' := by
  by_cases h : k = 0
  · exact ⟨false, k, .inr ⟨rfl, rfl, h⟩⟩
  · exact ⟨true, k - 1, .inl ⟨rfl, rfl, h⟩⟩
theorem SW_is (v : Int) : ∃ ok v', SW v ok v' := by
  by_cases h : v = 4095
  · exact ⟨false, v, .inr ⟨rfl, rfl, h⟩⟩
  · exact ⟨true, v + 1, .inl ⟨rfl, rfl, h⟩⟩
theorem EN_fit {c k v l : Int} (h : Fit c k v) {ok : Bool} {k' : Int} (he : EN k l ok k') : Fit c k' v := by
  obtain ⟨b0, b1, b2, b3, b4, b5⟩ := h
  rcases he with ⟨_, rfl, _, _⟩ | ⟨_, rfl, _⟩ <;> exact ⟨by omega, by omega, by omega, by omega, by omega, by omega⟩
theorem SW_fit {c k v : Int} (h : Fit c k v) {ok : Bool} {v' : Int} (he : SW v ok v') : Fit c k v' := by
  obtain ⟨b0, b1, b2, b3, b4, b5⟩ := h
  rcases he with ⟨_, rfl, _⟩ | ⟨_, rfl, _⟩ <;> exact ⟨by omega, by omega, by omega, by omega, by omega, by omega⟩
section
variable {c k v l : Int} {ok : Bool} {x : Int}
theorem enter_any (h : Fit c k v) (hs : EN k l ok x) (W : World) (he : Env W) :
    Calls Tryd.prog 12 #[.int .u64 (gI c k v), .int .i64 l] W fun e w' => e = .returned (stepV ok c x v) ∧ Below W.heap.size W w' := by
  rcases hs with ⟨rfl, rfl, h1, h2⟩ | ⟨rfl, rfl, h1⟩
  · exact quiet_below (enter_yes h h1 h2 W he)
  · by_cases h3 : l ≤ x
    · exact quiet_below (enter_full h h3 W he)
    · exact quiet_below (enter_top h h3 (by omega) W he)
theorem refEnter_any (h : Fit c k v) (hs : EN k l ok x) (W : World) :
    Calls Tryd.prog 13 #[.int .u64 (gI c k v), .int .i64 l] W fun e w' => e = .returned (stepV ok c x v) ∧ Below W.heap.size W w' := by
  rcases hs with ⟨rfl, rfl, h1, h2⟩ | ⟨rfl, rfl, h1⟩
  · exact refEnter_yes h h1 h2 W
  · by_cases h3 : l ≤ x
    · exact refEnter_full h h3 W
    · exact refEnter_top h h3 (by omega) W
theorem leave_any (h : Fit c k v) (hs : LV k ok x) (W : World) (he : Env W) :
    Calls Tryd.prog 14 #[.int .u64 (gI c k v)] W fun e w' => e = .returned (stepV ok c x v) ∧ Below W.heap.size W w' := by
  rcases hs with ⟨rfl, rfl, h1⟩ | ⟨rfl, rfl, h1⟩
  · exact quiet_below (leave_yes h h1 W he)
  · exact quiet_below (leave_no h h1 W he)
theorem refLeave_any (h : Fit c k v) (hs : LV k ok x) (W : World) :
    Calls Tryd.prog 15 #[.int .u64 (gI c k v)] W fun e w' => e = .returned (stepV ok c x v) ∧ Below W.heap.size W w' := by
  rcases hs with ⟨rfl, rfl, h1⟩ | ⟨rfl, rfl, h1⟩
  · exact refLeave_yes h h1 W
  · exact refLeave_no h h1 W
theorem swap_any (h : Fit c k v) (hs : SW v ok x) (W : World) (he : Env W) :
    Calls Tryd.prog 16 #[.int .u64 (gI c k v)] W fun e w' => e = .returned (stepV ok c k x) ∧ Below W.heap.size W w' := by
  rcases hs with ⟨rfl, rfl, h1⟩ | ⟨rfl, rfl, h1⟩
  · exact quiet_below (swap_yes h h1 W he)
  · exact quiet_below (swap_no h h1 W he)
theorem refSwap_any (h : Fit c k v) (hs : SW v ok x) (W : World) :
    Calls Tryd.prog 17 #[.int .u64 (gI c k v)] W fun e w' => e = .returned (stepV ok c k x) ∧ Below W.heap.size W w' := by
  rcases hs with ⟨rfl, rfl, h1⟩ | ⟨rfl, rfl, h1⟩
  · exact refSwap_yes h h1 W
  · exact refSwap_no h h1 W
end

/-- .. the struct written out, as a walk wants it. -/
theorem unpack_lit {c k v : Int} (h : Fit c k v) (W : World) (he : Env W) :
    Calls Tryd.prog 10 #[.int .u64 (gI c k v)] W fun e w' => e = .returned (.agg #[.int .i64 v, .int .i64 k, .int .i64 c]) ∧ Below W.heap.size W w' := unpack_any h W he
theorem refUnpack_lit {c k v : Int} (h : Fit c k v) (W : World) :
    Calls Tryd.prog 11 #[.int .u64 (gI c k v)] W fun e w' => e = .returned (.agg #[.int .i64 v, .int .i64 k, .int .i64 c]) ∧ Below W.heap.size W w' := refUnpack_any h W
theorem pack_lit (c k v : Int) (V : Value) (hV : PV c k v V) (W : World) (he : Env W) :
    Calls Tryd.prog 7 #[.agg #[.int .i64 v, .int .i64 k, .int .i64 c]] W fun e w' => e = .returned V ∧ Below W.heap.size W w' := pack_any c k v V hV W he
theorem refPack_lit (c k v : Int) (V : Value) (hV : PV c k v V) (W : World) :
    Calls Tryd.prog 8 #[.agg #[.int .i64 v, .int .i64 k, .int .i64 c]] W fun e w' => e = .returned V ∧ Below W.heap.size W w' := refPack_any c k v V hV W
/-- The clock of a gate that a call has handed back. -/
theorem field2 (a b c : Value) (w : World) : (Instr.field 23 (.agg #[a, b, c]) 2).run Tryd.prog w = .ok c w := by kernel_rfl
theorem fit123 : Fit 3 2 1 := ⟨by omega, by omega, by omega, by omega, by omega, by omega⟩
theorem fit133 : Fit 3 3 1 := ⟨by omega, by omega, by omega, by omega, by omega, by omega⟩
theorem fit10 : Fit 10 2 1 := ⟨by omega, by omega, by omega, by omega, by omega, by omega⟩
theorem tick_aw (W : World) (he : Env W) : Calls Tryd.prog 18 #[.int .u64 (gI 3 2 1), .int .i64 7] W fun e w' => e = .returned (.int .u64 (gI 10 2 1)) ∧ Below W.heap.size W w' :=
  quiet_below (tick_any fit123 (by omega) (by omega) W he)
theorem pack_aw (W : World) (he : Env W) : Calls Tryd.prog 7 #[.agg #[.int .i64 1, .int .i64 2, .int .i64 3]] W fun e w' => e = .returned (.tuple #[.int .u64 (gI 3 2 1), .int .i64 0]) ∧ Below W.heap.size W w' :=
  pack_any 3 2 1 _ ⟨fun _ => rfl, fun h' => absurd fit123 h'⟩ W he
set_option maxHeartbeats 2000000 in
theorem awake_any (W : World) (he : Env W) : Calls Tryd.prog 9 #[] W fun e w' => e = .returned (.bool true) ∧ Below W.heap.size W w' := by
  have d0 : (gI 3 2 1 == 4505798650626051) = true := by decide
  have d9 := field2
  go_enter Tryd.func9, Tryd.ntmps9
  go_wp2_with fail
  go_at_call 7
  refine (pack_aw _ he).mono ?_
  rintro e w1 ⟨rfl, hb1⟩
  have HB1 := Lib.hid hb1
  have HE1 := Lib.hid (he.below hb1 (Nat.le_refl _))
  clear hb1 he
  go_wp2_with fail
  go_at_call 12
  refine (enter_any (ok := true) (x := 3) fit123 (.inl ⟨rfl, rfl, by omega, by omega⟩) _ HE1.out).mono ?_
  rintro e w2 ⟨rfl, hb2⟩
  have HB2 := Lib.hid (HB1.out.trans (hb2.mono HB1.out.size))
  have HE2 := Lib.hid (HE1.out.below hb2 (Nat.le_refl _))
  clear hb2
  go_wp2_with fail
  go_at_call 12
  refine (enter_any (ok := false) (x := 3) fit133 (.inr ⟨rfl, rfl, by omega⟩) _ HE2.out).mono ?_
  rintro e w3 ⟨rfl, hb3⟩
  have HB3 := Lib.hid (HB2.out.trans (hb3.mono HB2.out.size))
  have HE3 := Lib.hid (HE2.out.below hb3 (Nat.le_refl _))
  clear hb3
  go_wp2_with fail
  go_at_call 10
  refine (unpack_lit fit133 _ HE3.out).mono ?_
  rintro e w4 ⟨rfl, hb4⟩
  have HB4 := Lib.hid (HB3.out.trans (hb4.mono HB3.out.size))
  have HE4 := Lib.hid (HE3.out.below hb4 (Nat.le_refl _))
  clear hb4
  go_wp2_with fail
  go_at_call 18
  refine (tick_aw _ HE4.out).mono ?_
  rintro e w5 ⟨rfl, hb5⟩
  have HB5 := Lib.hid (HB4.out.trans (hb5.mono HB4.out.size))
  have HE5 := Lib.hid (HE4.out.below hb5 (Nat.le_refl _))
  clear hb5
  go_wp2_with fail
  go_at_call 10
  refine (unpack_lit fit10 _ HE5.out).mono ?_
  rintro e w6 ⟨rfl, hb6⟩
  have HB6 := Lib.hid (HB5.out.trans (hb6.mono HB5.out.size))
  clear hb6
  go_wp2_with fail
  go_ret
  exact ⟨rfl, HB6.out⟩
end Ga
end Go.Proofs.YtgddocpndogigaaDoor
