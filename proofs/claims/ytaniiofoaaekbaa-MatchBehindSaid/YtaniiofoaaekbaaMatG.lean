/- Layer 13: awake, the law's fixed fact. -/
import Derived.Test.YtaniiofoaaekbaaMatD
set_option linter.unusedVariables false
set_option linter.unusedSimpArgs false
namespace Go.Proofs.Ytaniiofoaaekbaa
open Go.ChangeShapes Go.WideShapes Go.ChangeAt Go.RowKit Go.Mtl Go.Lib
namespace Ma
open RulM (R)
open MatM (K hitB fst idxI accB)

def r1 : R := ⟨false, 6, 0, 0, 0, 0, 0, 65535, 80, 80⟩
def r2 : R := ⟨true, 0, 0, 0, 0, 0, 0, 65535, 0, 65535⟩
def k1 : K := ⟨6, 0, 0, 0, 80, 0, 0⟩
def k2 : K := ⟨6, 0, 0, 0, 81, 0, 0⟩
def k3 : K := ⟨0, 0, 0, 0, 0, 0, 0⟩
theorem r1_ok : r1.Ok := ⟨by decide, by decide, by decide, by decide, by decide, by decide, by decide, by decide, by decide⟩
theorem r2_ok : r2.Ok := ⟨by decide, by decide, by decide, by decide, by decide, by decide, by decide, by decide, by decide⟩
theorem k1_ok : k1.Ok := ⟨by decide, by decide, by decide, by decide, by decide, by decide, by decide⟩
theorem k2_ok : k2.Ok := ⟨by decide, by decide, by decide, by decide, by decide, by decide, by decide⟩
theorem k3_ok : k3.Ok := ⟨by decide, by decide, by decide, by decide, by decide, by decide, by decide⟩
theorem rs_ok : ∀ r ∈ [r1, r2], r.Ok := by
  intro r hr
  rcases List.mem_cons.1 hr with rfl | hr
  · exact r1_ok
  · rw [List.mem_singleton.1 hr]; exact r2_ok
theorem at1 : fst k1 [r1, r2] = some 0 ∧ accB [r1, r2] (some 0) = false := by decide +kernel
theorem at2 : fst k2 [r1, r2] = some 1 ∧ accB [r1, r2] (some 1) = true := by decide +kernel
theorem at3 : fst k3 [] = none := rfl
theorem at4 : hitB r1 k1 = true := by decide +kernel

theorem lit1 (A : Option Addr) (c : Nat) (W : World) (h : Rds W W.heap.size (.slice A 2 c) [r1, r2]) :
    Calls Try.prog 6 #[.slice A 2 c, .agg #[.int .u8 6, .int .u32 0, .int .u32 0, .int .u16 0, .int .u16 80, .int .u8 0, .int .u8 0]] W fun e w' => e = .returned (.tuple #[.int .i64 0, .bool false]) ∧ Below W.heap.size W w' := by
  have := first_any A 2 c [r1, r2] k1 k1_ok W rfl h rs_ok (by unfold maxLen; decide)
  rw [at1.1, at1.2] at this
  exact this
theorem lit2 (A : Option Addr) (c : Nat) (W : World) (h : Rds W W.heap.size (.slice A 2 c) [r1, r2]) :
    Calls Try.prog 6 #[.slice A 2 c, .agg #[.int .u8 6, .int .u32 0, .int .u32 0, .int .u16 0, .int .u16 81, .int .u8 0, .int .u8 0]] W fun e w' => e = .returned (.tuple #[.int .i64 1, .bool true]) ∧ Below W.heap.size W w' := by
  have := first_any A 2 c [r1, r2] k2 k2_ok W rfl h rs_ok (by unfold maxLen; decide)
  rw [at2.1, at2.2] at this
  exact this
theorem lit3 (W : World) :
    Calls Try.prog 6 #[.slice none 0 0, .agg #[.int .u8 0, .int .u32 0, .int .u32 0, .int .u16 0, .int .u16 0, .int .u8 0, .int .u8 0]] W fun e w' => e = .returned (.tuple #[.int .i64 (-1), .bool false]) ∧ Below W.heap.size W w' :=
  first_any none 0 0 [] k3 k3_ok W rfl (Rds.nil _ _) (fun r hr => by cases hr) (by unfold maxLen; decide)
theorem lit4 (W : World) :
    Calls Try.prog 10 #[.agg #[.bool false, .int .u8 6, .int .u32 0, .int .i64 0, .int .u32 0, .int .i64 0, .int .u16 0, .int .u16 65535, .int .u16 80, .int .u16 80], .agg #[.int .u8 6, .int .u32 0, .int .u32 0, .int .u16 0, .int .u16 80, .int .u8 0, .int .u8 0]] W
      fun e w' => e = .returned (.bool true) ∧ Below W.heap.size W w' := by
  have := matches_any r1 k1 r1_ok k1_ok W
  rw [at4] at this
  exact this
abbrev cs2 : Array Value := #[.bool false, .int .u8 6, .int .u32 0, .int .i64 0, .int .u32 0, .int .i64 0, .int .u16 0, .int .u16 65535, .int .u16 80, .int .u16 80, .bool true, .int .u8 0, .int .u32 0, .int .i64 0, .int .u32 0, .int .i64 0, .int .u16 0, .int .u16 65535, .int .u16 0, .int .u16 65535]
/-- The two rules in their block. -/
structure LA (w : World) (W : World) : Prop where
  blk : Blk W (w.heap.size + 1) cs2 32
  bel : Below w.heap.size w W
theorem LA.next {w W W' : World} (H : LA w W) (hb : Below W.heap.size W W') : LA w W' := ⟨H.blk.next hb, below_then H.bel hb⟩
theorem LA.start (w : World) (o : Obj) : LA w ((w.alloc o).alloc (.cells cs2 32)) := ⟨Blk.box1 _ _ _ _, below_then (below_box _ _) (below_box _ _)⟩
theorem LA.rds {w W : World} (H : LA w W) : Rds W W.heap.size (.slice (some ⟨w.heap.size + 1, 0, none⟩) 2 2) [r1, r2] := by
  refine ⟨_, 2, rfl, Nat.le_refl _, by unfold maxLen; decide, fun _ => ⟨w.heap.size + 1, 0, rfl, H.blk.lt, fun j u hu => ?_⟩⟩
  rw [Nat.zero_add]
  exact H.blk.cell j u (by rw [← hu]; exact List.getElem?_toArray)

set_option maxRecDepth 100000 in
set_option maxHeartbeats 1000000 in
theorem awake_any (w : World) :
    Calls Try.prog 9 #[] w fun e w' => e = .returned (.bool true) ∧ Below w.heap.size w w' := by
  have HL := Lib.hid (LA.start w (.cells #[.int .u16 0, .int .u16 65535] 30))
  go_enter Try.func9, Try.ntmps9
  go_wp2_with fail
  go_at_call 6
  refine (lit1 _ _ _ HL.out.rds).mono ?_
  rintro e w1 ⟨rfl, hb1⟩
  have HL1 := Lib.hid (HL.out.next hb1)
  clear hb1 HL
  go_wp2_with fail
  go_at_call 6
  refine (lit2 _ _ _ HL1.out.rds).mono ?_
  rintro e w2 ⟨rfl, hb2⟩
  have HL2 := Lib.hid (HL1.out.next hb2)
  clear hb2 HL1
  go_wp2_with fail
  go_at_call 6
  refine (lit3 _).mono ?_
  rintro e w3 ⟨rfl, hb3⟩
  have HL3 := Lib.hid (HL2.out.next hb3)
  clear hb3 HL2
  have c0 := HL3.out.blk.cell 0 _ rfl
  have c1 := HL3.out.blk.cell 1 _ rfl
  have c2 := HL3.out.blk.cell 2 _ rfl
  have c3 := HL3.out.blk.cell 3 _ rfl
  have c4 := HL3.out.blk.cell 4 _ rfl
  have c5 := HL3.out.blk.cell 5 _ rfl
  have c6 := HL3.out.blk.cell 6 _ rfl
  have c7 := HL3.out.blk.cell 7 _ rfl
  have c8 := HL3.out.blk.cell 8 _ rfl
  have c9 := HL3.out.blk.cell 9 _ rfl
  go_wp2_with fail
  go_at_call 10
  refine (lit4 _).mono ?_
  rintro e w4 ⟨rfl, hb4⟩
  have HL4 := Lib.hid (HL3.out.next hb4)
  clear hb4 HL3 c0 c1 c2 c3 c4 c5 c6 c7 c8 c9
  go_wp2_with fail
  go_ret
  exact ⟨rfl, HL4.out.bel⟩
end Ma
end Go.Proofs.Ytaniiofoaaekbaa
