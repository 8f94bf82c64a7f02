/- Layer 12: the contracts of Good and show. (Written by wip/tools/mkRulC.py.) -/
import Derived.Test.YtfbbkbjiaopnkaaGreatDoorRulB
import Derived.Deep.RegionHeldLaw
import Derived.Deep.RegionHeld3
set_option linter.unusedVariables false
set_option linter.unusedSimpArgs false
namespace Go.Proofs.YtfbbkbjiaopnkaaGreatDoor
open Go.ChangeShapes Go.WideShapes Go.ChangeAt Go.RowKit Go.Mtl Go.Shelf Go.Lib
namespace Ru
open RulM (R wordS known protoP known_iff spanS netL verdL goodR goodR_iff wordsR lineR)
open AdrM (anyL validS showS)

abbrev cR (r : R) : Array Value := #[.bool r.acc, .int .u8 (r.pr : Int), .int .u32 (r.sa : Int), .int .i64 r.sb, .int .u32 (r.da : Int), .int .i64 r.db, .int .u16 (r.sl : Int), .int .u16 (r.sh : Int), .int .u16 (r.dl : Int), .int .u16 (r.dh : Int)]
/-- A rule in a block, and what was there before. -/
structure RAt (w : World) (g : Nat) (r : R) (W : World) : Prop where
  blk : Blk W g (cR r) 38
  bel : Below w.heap.size w W
theorem RAt.box (w : World) (r : R) : RAt w w.heap.size r (w.alloc (.cells (cR r) 38)) := ⟨Blk.box _ _ _, below_box _ _⟩
theorem RAt.next {w W W' : World} {g : Nat} {r : R} (h : RAt w g r W) (hb : Below W.heap.size W W') : RAt w g r W' := ⟨h.blk.next hb, below_then h.bel hb⟩
theorem RAt.c0 {w W : World} {g : Nat} {r : R} (h : RAt w g r W) : W.cell? ⟨g, 0, none⟩ = some (.bool r.acc) := h.blk.cell 0 _ rfl
theorem RAt.c1 {w W : World} {g : Nat} {r : R} (h : RAt w g r W) : W.cell? ⟨g, 1, none⟩ = some (.int .u8 (r.pr : Int)) := h.blk.cell 1 _ rfl
theorem RAt.c2 {w W : World} {g : Nat} {r : R} (h : RAt w g r W) : W.cell? ⟨g, 2, none⟩ = some (.int .u32 (r.sa : Int)) := h.blk.cell 2 _ rfl
theorem RAt.c3 {w W : World} {g : Nat} {r : R} (h : RAt w g r W) : W.cell? ⟨g, 3, none⟩ = some (.int .i64 r.sb) := h.blk.cell 3 _ rfl
theorem RAt.c4 {w W : World} {g : Nat} {r : R} (h : RAt w g r W) : W.cell? ⟨g, 4, none⟩ = some (.int .u32 (r.da : Int)) := h.blk.cell 4 _ rfl
theorem RAt.c5 {w W : World} {g : Nat} {r : R} (h : RAt w g r W) : W.cell? ⟨g, 5, none⟩ = some (.int .i64 r.db) := h.blk.cell 5 _ rfl
theorem RAt.c6 {w W : World} {g : Nat} {r : R} (h : RAt w g r W) : W.cell? ⟨g, 6, none⟩ = some (.int .u16 (r.sl : Int)) := h.blk.cell 6 _ rfl
theorem RAt.c7 {w W : World} {g : Nat} {r : R} (h : RAt w g r W) : W.cell? ⟨g, 7, none⟩ = some (.int .u16 (r.sh : Int)) := h.blk.cell 7 _ rfl
theorem RAt.c8 {w W : World} {g : Nat} {r : R} (h : RAt w g r W) : W.cell? ⟨g, 8, none⟩ = some (.int .u16 (r.dl : Int)) := h.blk.cell 8 _ rfl
theorem RAt.c9 {w W : World} {g : Nat} {r : R} (h : RAt w g r W) : W.cell? ⟨g, 9, none⟩ = some (.int .u16 (r.dh : Int)) := h.blk.cell 9 _ rfl

theorem good_no {r : R} (h : ¬ (known r.pr = true ∧ validS r.sa r.sb = true ∧ validS r.da r.db = true ∧ r.sl ≤ r.sh ∧ r.dl ≤ r.dh)) : goodR r = false := by
  cases hg : goodR r with
  | false => rfl
  | true => exact absurd ((goodR_iff r).1 hg) h
theorem ret_bool {a b : Bool} (h : a = b) : Ending.returned (.bool a) = .returned (.bool b) := by rw [h]

set_option maxRecDepth 100000 in
set_option maxHeartbeats 1000000 in
theorem good_0 (r : R) (ho : r.Ok) (w : World) (he : Env w)  (h0 : known r.pr = false) :
    Calls Tryz.prog 11 #[.agg #[.bool r.acc, .int .u8 (r.pr : Int), .int .u32 (r.sa : Int), .int .i64 r.sb, .int .u32 (r.da : Int), .int .i64 r.db, .int .u16 (r.sl : Int), .int .u16 (r.sh : Int), .int .u16 (r.dl : Int), .int .u16 (r.dh : Int)]] w fun e w' => e = .returned (.bool false) ∧ Below w.heap.size w w' := by
  have H0 := Lib.hid (fun W (h : Below w.heap.size w W) => protocolWord_any r.pr ho.pr W)
  rw [h0] at H0
  have K := RAt.box w r
  clear he ho h0
  have HK0 := Lib.hid K
  have d1 := K.c1
  clear K
  go_enter Tryz.func11, Tryz.ntmps11
  go_wp2_with fail
  go_at_call 23
  refine (H0.out _ HK0.out.bel).mono ?_
  rintro e w1 ⟨rfl, hb⟩
  have HK1 := Lib.hid (HK0.out.next hb)
  clear hb d1
  go_wp2_with fail
  go_ret
  exact ⟨rfl, HK1.out.bel⟩
set_option maxRecDepth 100000 in
set_option maxHeartbeats 1000000 in
theorem good_1 (r : R) (ho : r.Ok) (w : World) (he : Env w) (h0 : known r.pr = true) (h1 : validS r.sa r.sb = false) :
    Calls Tryz.prog 11 #[.agg #[.bool r.acc, .int .u8 (r.pr : Int), .int .u32 (r.sa : Int), .int .i64 r.sb, .int .u32 (r.da : Int), .int .i64 r.db, .int .u16 (r.sl : Int), .int .u16 (r.sh : Int), .int .u16 (r.dl : Int), .int .u16 (r.dh : Int)]] w fun e w' => e = .returned (.bool false) ∧ Below w.heap.size w w' := by
  have H0 := Lib.hid (fun W (h : Below w.heap.size w W) => protocolWord_any r.pr ho.pr W)
  rw [h0] at H0
  have H1 := Lib.hid (fun W (h : Below w.heap.size w W) => isNet_any r.sa r.sb ho.sa W (he.ad.below h))
  rw [h1] at H1
  have K := RAt.box w r
  clear he ho h0 h1
  have HK0 := Lib.hid K
  have d1 := K.c1
  clear K
  go_enter Tryz.func11, Tryz.ntmps11
  go_wp2_with fail
  go_at_call 23
  refine (H0.out _ HK0.out.bel).mono ?_
  rintro e w1 ⟨rfl, hb⟩
  have HK1 := Lib.hid (HK0.out.next hb)
  have d2 := HK1.out.c2
  have d3 := HK1.out.c3
  clear hb d1
  go_wp2_with fail
  go_at_call 24
  refine (H1.out _ HK1.out.bel).mono ?_
  rintro e w2 ⟨rfl, hb⟩
  have HK2 := Lib.hid (HK1.out.next hb)
  clear hb d2 d3
  go_wp2_with fail
  go_ret
  exact ⟨rfl, HK2.out.bel⟩
set_option maxRecDepth 100000 in
set_option maxHeartbeats 1000000 in
theorem good_2 (r : R) (ho : r.Ok) (w : World) (he : Env w) (h0 : known r.pr = true) (h1 : validS r.sa r.sb = true) (h2 : validS r.da r.db = false) :
    Calls Tryz.prog 11 #[.agg #[.bool r.acc, .int .u8 (r.pr : Int), .int .u32 (r.sa : Int), .int .i64 r.sb, .int .u32 (r.da : Int), .int .i64 r.db, .int .u16 (r.sl : Int), .int .u16 (r.sh : Int), .int .u16 (r.dl : Int), .int .u16 (r.dh : Int)]] w fun e w' => e = .returned (.bool false) ∧ Below w.heap.size w w' := by
  have H0 := Lib.hid (fun W (h : Below w.heap.size w W) => protocolWord_any r.pr ho.pr W)
  rw [h0] at H0
  have H1 := Lib.hid (fun W (h : Below w.heap.size w W) => isNet_any r.sa r.sb ho.sa W (he.ad.below h))
  rw [h1] at H1
  have H2 := Lib.hid (fun W (h : Below w.heap.size w W) => isNet_any r.da r.db ho.da W (he.ad.below h))
  rw [h2] at H2
  have K := RAt.box w r
  clear he ho h0 h1 h2
  have HK0 := Lib.hid K
  have d1 := K.c1
  clear K
  go_enter Tryz.func11, Tryz.ntmps11
  go_wp2_with fail
  go_at_call 23
  refine (H0.out _ HK0.out.bel).mono ?_
  rintro e w1 ⟨rfl, hb⟩
  have HK1 := Lib.hid (HK0.out.next hb)
  have d2 := HK1.out.c2
  have d3 := HK1.out.c3
  clear hb d1
  go_wp2_with fail
  go_at_call 24
  refine (H1.out _ HK1.out.bel).mono ?_
  rintro e w2 ⟨rfl, hb⟩
  have HK2 := Lib.hid (HK1.out.next hb)
  have d4 := HK2.out.c4
  have d5 := HK2.out.c5
  clear hb d2 d3
  go_wp2_with fail
  go_at_call 24
  refine (H2.out _ HK2.out.bel).mono ?_
  rintro e w3 ⟨rfl, hb⟩
  have HK3 := Lib.hid (HK2.out.next hb)
  clear hb d4 d5
  go_wp2_with fail
  go_ret
  exact ⟨rfl, HK3.out.bel⟩
set_option maxRecDepth 100000 in
set_option maxHeartbeats 1000000 in
theorem good_3 (r : R) (ho : r.Ok) (w : World) (he : Env w) (h0 : known r.pr = true) (h1 : validS r.sa r.sb = true) (h2 : validS r.da r.db = true) (h3 : decide (r.sl ≤ r.sh) = false) :
    Calls Tryz.prog 11 #[.agg #[.bool r.acc, .int .u8 (r.pr : Int), .int .u32 (r.sa : Int), .int .i64 r.sb, .int .u32 (r.da : Int), .int .i64 r.db, .int .u16 (r.sl : Int), .int .u16 (r.sh : Int), .int .u16 (r.dl : Int), .int .u16 (r.dh : Int)]] w fun e w' => e = .returned (.bool false) ∧ Below w.heap.size w w' := by
  have H0 := Lib.hid (fun W (h : Below w.heap.size w W) => protocolWord_any r.pr ho.pr W)
  rw [h0] at H0
  have H1 := Lib.hid (fun W (h : Below w.heap.size w W) => isNet_any r.sa r.sb ho.sa W (he.ad.below h))
  rw [h1] at H1
  have H2 := Lib.hid (fun W (h : Below w.heap.size w W) => isNet_any r.da r.db ho.da W (he.ad.below h))
  rw [h2] at H2
  have H3 := Lib.hid (fun W (h : Below w.heap.size w W) => isSpan_any r.sl r.sh W)
  rw [h3] at H3
  have K := RAt.box w r
  clear he ho h0 h1 h2 h3
  have HK0 := Lib.hid K
  have d1 := K.c1
  clear K
  go_enter Tryz.func11, Tryz.ntmps11
  go_wp2_with fail
  go_at_call 23
  refine (H0.out _ HK0.out.bel).mono ?_
  rintro e w1 ⟨rfl, hb⟩
  have HK1 := Lib.hid (HK0.out.next hb)
  have d2 := HK1.out.c2
  have d3 := HK1.out.c3
  clear hb d1
  go_wp2_with fail
  go_at_call 24
  refine (H1.out _ HK1.out.bel).mono ?_
  rintro e w2 ⟨rfl, hb⟩
  have HK2 := Lib.hid (HK1.out.next hb)
  have d4 := HK2.out.c4
  have d5 := HK2.out.c5
  clear hb d2 d3
  go_wp2_with fail
  go_at_call 24
  refine (H2.out _ HK2.out.bel).mono ?_
  rintro e w3 ⟨rfl, hb⟩
  have HK3 := Lib.hid (HK2.out.next hb)
  have d6 := HK3.out.c6
  have d7 := HK3.out.c7
  clear hb d4 d5
  go_wp2_with fail
  go_at_call 25
  refine (H3.out _ HK3.out.bel).mono ?_
  rintro e w4 ⟨rfl, hb⟩
  have HK4 := Lib.hid (HK3.out.next hb)
  clear hb d6 d7
  go_wp2_with fail
  go_ret
  exact ⟨rfl, HK4.out.bel⟩
set_option maxRecDepth 100000 in
set_option maxHeartbeats 1000000 in
theorem good_4 (r : R) (ho : r.Ok) (w : World) (he : Env w) (h0 : known r.pr = true) (h1 : validS r.sa r.sb = true) (h2 : validS r.da r.db = true) (h3 : decide (r.sl ≤ r.sh) = true) (h4 : decide (r.dl ≤ r.dh) = false) :
    Calls Tryz.prog 11 #[.agg #[.bool r.acc, .int .u8 (r.pr : Int), .int .u32 (r.sa : Int), .int .i64 r.sb, .int .u32 (r.da : Int), .int .i64 r.db, .int .u16 (r.sl : Int), .int .u16 (r.sh : Int), .int .u16 (r.dl : Int), .int .u16 (r.dh : Int)]] w fun e w' => e = .returned (.bool false) ∧ Below w.heap.size w w' := by
  have H0 := Lib.hid (fun W (h : Below w.heap.size w W) => protocolWord_any r.pr ho.pr W)
  rw [h0] at H0
  have H1 := Lib.hid (fun W (h : Below w.heap.size w W) => isNet_any r.sa r.sb ho.sa W (he.ad.below h))
  rw [h1] at H1
  have H2 := Lib.hid (fun W (h : Below w.heap.size w W) => isNet_any r.da r.db ho.da W (he.ad.below h))
  rw [h2] at H2
  have H3 := Lib.hid (fun W (h : Below w.heap.size w W) => isSpan_any r.sl r.sh W)
  rw [h3] at H3
  have H4 := Lib.hid (fun W (h : Below w.heap.size w W) => isSpan_any r.dl r.dh W)
  rw [h4] at H4
  have K := RAt.box w r
  clear he ho h0 h1 h2 h3 h4
  have HK0 := Lib.hid K
  have d1 := K.c1
  clear K
  go_enter Tryz.func11, Tryz.ntmps11
  go_wp2_with fail
  go_at_call 23
  refine (H0.out _ HK0.out.bel).mono ?_
  rintro e w1 ⟨rfl, hb⟩
  have HK1 := Lib.hid (HK0.out.next hb)
  have d2 := HK1.out.c2
  have d3 := HK1.out.c3
  clear hb d1
  go_wp2_with fail
  go_at_call 24
  refine (H1.out _ HK1.out.bel).mono ?_
  rintro e w2 ⟨rfl, hb⟩
  have HK2 := Lib.hid (HK1.out.next hb)
  have d4 := HK2.out.c4
  have d5 := HK2.out.c5
  clear hb d2 d3
  go_wp2_with fail
  go_at_call 24
  refine (H2.out _ HK2.out.bel).mono ?_
  rintro e w3 ⟨rfl, hb⟩
  have HK3 := Lib.hid (HK2.out.next hb)
  have d6 := HK3.out.c6
  have d7 := HK3.out.c7
  clear hb d4 d5
  go_wp2_with fail
  go_at_call 25
  refine (H3.out _ HK3.out.bel).mono ?_
  rintro e w4 ⟨rfl, hb⟩
  have HK4 := Lib.hid (HK3.out.next hb)
  have d8 := HK4.out.c8
  have d9 := HK4.out.c9
  clear hb d6 d7
  go_wp2_with fail
  go_at_call 25
  refine (H4.out _ HK4.out.bel).mono ?_
  rintro e w5 ⟨rfl, hb⟩
  have HK5 := Lib.hid (HK4.out.next hb)
  clear hb d8 d9
  go_wp2_with fail
  go_ret
  exact ⟨rfl, HK5.out.bel⟩
set_option maxRecDepth 100000 in
set_option maxHeartbeats 1000000 in
theorem good_5 (r : R) (ho : r.Ok) (w : World) (he : Env w) (h0 : known r.pr = true) (h1 : validS r.sa r.sb = true) (h2 : validS r.da r.db = true) (h3 : decide (r.sl ≤ r.sh) = true) (h4 : decide (r.dl ≤ r.dh) = true) :
    Calls Tryz.prog 11 #[.agg #[.bool r.acc, .int .u8 (r.pr : Int), .int .u32 (r.sa : Int), .int .i64 r.sb, .int .u32 (r.da : Int), .int .i64 r.db, .int .u16 (r.sl : Int), .int .u16 (r.sh : Int), .int .u16 (r.dl : Int), .int .u16 (r.dh : Int)]] w fun e w' => e = .returned (.bool true) ∧ Below w.heap.size w w' := by
  have H0 := Lib.hid (fun W (h : Below w.heap.size w W) => protocolWord_any r.pr ho.pr W)
  rw [h0] at H0
  have H1 := Lib.hid (fun W (h : Below w.heap.size w W) => isNet_any r.sa r.sb ho.sa W (he.ad.below h))
  rw [h1] at H1
  have H2 := Lib.hid (fun W (h : Below w.heap.size w W) => isNet_any r.da r.db ho.da W (he.ad.below h))
  rw [h2] at H2
  have H3 := Lib.hid (fun W (h : Below w.heap.size w W) => isSpan_any r.sl r.sh W)
  rw [h3] at H3
  have H4 := Lib.hid (fun W (h : Below w.heap.size w W) => isSpan_any r.dl r.dh W)
  rw [h4] at H4
  have K := RAt.box w r
  clear he ho h0 h1 h2 h3 h4
  have HK0 := Lib.hid K
  have d1 := K.c1
  clear K
  go_enter Tryz.func11, Tryz.ntmps11
  go_wp2_with fail
  go_at_call 23
  refine (H0.out _ HK0.out.bel).mono ?_
  rintro e w1 ⟨rfl, hb⟩
  have HK1 := Lib.hid (HK0.out.next hb)
  have d2 := HK1.out.c2
  have d3 := HK1.out.c3
  clear hb d1
  go_wp2_with fail
  go_at_call 24
  refine (H1.out _ HK1.out.bel).mono ?_
  rintro e w2 ⟨rfl, hb⟩
  have HK2 := Lib.hid (HK1.out.next hb)
  have d4 := HK2.out.c4
  have d5 := HK2.out.c5
  clear hb d2 d3
  go_wp2_with fail
  go_at_call 24
  refine (H2.out _ HK2.out.bel).mono ?_
  rintro e w3 ⟨rfl, hb⟩
  have HK3 := Lib.hid (HK2.out.next hb)
  have d6 := HK3.out.c6
  have d7 := HK3.out.c7
  clear hb d4 d5
  go_wp2_with fail
  go_at_call 25
  refine (H3.out _ HK3.out.bel).mono ?_
  rintro e w4 ⟨rfl, hb⟩
  have HK4 := Lib.hid (HK3.out.next hb)
  have d8 := HK4.out.c8
  have d9 := HK4.out.c9
  clear hb d6 d7
  go_wp2_with fail
  go_at_call 25
  refine (H4.out _ HK4.out.bel).mono ?_
  rintro e w5 ⟨rfl, hb⟩
  have HK5 := Lib.hid (HK4.out.next hb)
  clear hb d8 d9
  go_wp2_with fail
  go_ret
  exact ⟨rfl, HK5.out.bel⟩
theorem good_any (r : R) (ho : r.Ok) (w : World) (he : Env w) :
    Calls Tryz.prog 11 #[.agg #[.bool r.acc, .int .u8 (r.pr : Int), .int .u32 (r.sa : Int), .int .i64 r.sb, .int .u32 (r.da : Int), .int .i64 r.db, .int .u16 (r.sl : Int), .int .u16 (r.sh : Int), .int .u16 (r.dl : Int), .int .u16 (r.dh : Int)]] w fun e w' => e = .returned (.bool (goodR r)) ∧ Below w.heap.size w w' := by
  unfold goodR
  cases h0 : known r.pr with
  | false => exact (good_0 r ho w he h0).mono fun e w' ⟨a, b⟩ => ⟨by rw [a]; simp only [h0, Bool.false_and, Bool.and_false], b⟩
  | true =>
    cases h1 : validS r.sa r.sb with
    | false => exact (good_1 r ho w he h0 h1).mono fun e w' ⟨a, b⟩ => ⟨by rw [a]; simp only [h1, Bool.false_and, Bool.and_false], b⟩
    | true =>
      cases h2 : validS r.da r.db with
      | false => exact (good_2 r ho w he h0 h1 h2).mono fun e w' ⟨a, b⟩ => ⟨by rw [a]; simp only [h2, Bool.false_and, Bool.and_false], b⟩
      | true =>
        cases h3 : decide (r.sl ≤ r.sh) with
        | false => exact (good_3 r ho w he h0 h1 h2 h3).mono fun e w' ⟨a, b⟩ => ⟨by rw [a]; simp only [h3, Bool.false_and, Bool.and_false], b⟩
        | true =>
          cases h4 : decide (r.dl ≤ r.dh) with
          | false => exact (good_4 r ho w he h0 h1 h2 h3 h4).mono fun e w' ⟨a, b⟩ => ⟨by rw [a]; simp only [h4, Bool.false_and, Bool.and_false], b⟩
          | true =>
            exact (good_5 r ho w he h0 h1 h2 h3 h4).mono fun e w' ⟨a, b⟩ => ⟨by rw [a]; rfl, b⟩
end Ru
end Go.Proofs.YtfbbkbjiaopnkaaGreatDoor
