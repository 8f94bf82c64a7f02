/- Layer 13: the contract of the reference's Matches. (Written by wip/tools/mkMatB.py.) -/
import Derived.Test.YtaniiofoaaekbaaMatA
set_option linter.unusedVariables false
set_option linter.unusedSimpArgs false
namespace Go.Proofs.Ytaniiofoaaekbaa
open Go.ChangeShapes Go.WideShapes Go.ChangeAt Go.RowKit Go.Mtl Go.Lib
namespace Ma
open RulM (R)
open MatM (K hitB protoB protoB_any protoB_is inB)
open AdrM (hasS)

set_option maxRecDepth 100000 in
set_option maxHeartbeats 1000000 in
theorem refMatches_0 (r : R) (k : K) (ho : r.Ok) (hk : k.Ok) (w : World) (hp : r.pr ≠ 0) (hq : ¬ r.pr = k.pr) :
    Calls Try.prog 11 #[.agg #[.bool r.acc, .int .u8 (r.pr : Int), .int .u32 (r.sa : Int), .int .i64 r.sb, .int .u32 (r.da : Int), .int .i64 r.db, .int .u16 (r.sl : Int), .int .u16 (r.sh : Int), .int .u16 (r.dl : Int), .int .u16 (r.dh : Int)], .agg #[.int .u8 (k.pr : Int), .int .u32 (k.sr : Int), .int .u32 (k.ds : Int), .int .u16 (k.sp : Int), .int .u16 (k.dp : Int), .int .u8 (k.fl : Int), .int .u8 (k.kd : Int)]] w fun e w' => e = .returned (.bool (hitB r k)) ∧ Below w.heap.size w w' := by
  have HR : Hid (hitB r k = false) := by
    show _ = _; unfold hitB; rw [protoB_is hp, decide_eq_false hq]; try rfl
  have d0 : ((r.pr : Int) != 0) = true := by rw [bne_iff_ne]; omega
  have d1 : ((r.pr : Int) != (k.pr : Int)) = true := by rw [bne_iff_ne]; omega
  have HK := Lib.hid (Two.box w r k)
  clear ho hk hp hq
  obtain ⟨x0, x1, x2, x3, x4, x5, x6, x7, x8, x9⟩ := HK.out.r.cells
  obtain ⟨y0, y1, y2, y3, y4, y5, y6⟩ := HK.out.k.cells
  go_enter Try.func11, Try.ntmps11
  (go_wp2_with fail; go_ret; exact ⟨ret_bool (by rw [HR.out]; try rfl), HK.out.r.bel⟩)
set_option maxRecDepth 100000 in
set_option maxHeartbeats 1000000 in
theorem refMatches_1 (r : R) (k : K) (ho : r.Ok) (hk : k.Ok) (w : World) (hp : r.pr = 0) (h1 : hasS r.sa r.sb k.sr = false) :
    Calls Try.prog 11 #[.agg #[.bool r.acc, .int .u8 (r.pr : Int), .int .u32 (r.sa : Int), .int .i64 r.sb, .int .u32 (r.da : Int), .int .i64 r.db, .int .u16 (r.sl : Int), .int .u16 (r.sh : Int), .int .u16 (r.dl : Int), .int .u16 (r.dh : Int)], .agg #[.int .u8 (k.pr : Int), .int .u32 (k.sr : Int), .int .u32 (k.ds : Int), .int .u16 (k.sp : Int), .int .u16 (k.dp : Int), .int .u8 (k.fl : Int), .int .u8 (k.kd : Int)]] w fun e w' => e = .returned (.bool (hitB r k)) ∧ Below w.heap.size w w' := by
  have HR : Hid (hitB r k = false) := by
    show _ = _; unfold hitB; rw [protoB_any hp, h1]; try rfl
  have H1 := Lib.hid (fun W => refHas_any r.sa k.sr r.sb ho.sa hk.sr W)
  rw [h1] at H1
  have d0 : ((r.pr : Int) != 0) = false := by rw [hp]; rfl
  have HK := Lib.hid (Two.box w r k)
  clear ho hk hp h1
  obtain ⟨x0, x1, x2, x3, x4, x5, x6, x7, x8, x9⟩ := HK.out.r.cells
  obtain ⟨y0, y1, y2, y3, y4, y5, y6⟩ := HK.out.k.cells
  go_enter Try.func11, Try.ntmps11
  go_wp2_with fail
  go_at_call 16
  refine (H1.out _).mono ?_
  rintro e w1 ⟨rfl, hb⟩
  have HK' := Lib.hid (HK.out.next hb)
  clear hb x0 x1 x2 x3 x4 x5 x6 x7 x8 x9 y0 y1 y2 y3 y4 y5 y6 HK H1
  have HK := HK'
  clear HK'
  obtain ⟨x0, x1, x2, x3, x4, x5, x6, x7, x8, x9⟩ := HK.out.r.cells
  obtain ⟨y0, y1, y2, y3, y4, y5, y6⟩ := HK.out.k.cells
  (go_wp2_with fail; go_ret; exact ⟨ret_bool (by rw [HR.out]; try rfl), HK.out.r.bel⟩)
set_option maxRecDepth 100000 in
set_option maxHeartbeats 1000000 in
theorem refMatches_2 (r : R) (k : K) (ho : r.Ok) (hk : k.Ok) (w : World) (hp : r.pr = 0) (h1 : hasS r.sa r.sb k.sr = true) (h2 : hasS r.da r.db k.ds = false) :
    Calls Try.prog 11 #[.agg #[.bool r.acc, .int .u8 (r.pr : Int), .int .u32 (r.sa : Int), .int .i64 r.sb, .int .u32 (r.da : Int), .int .i64 r.db, .int .u16 (r.sl : Int), .int .u16 (r.sh : Int), .int .u16 (r.dl : Int), .int .u16 (r.dh : Int)], .agg #[.int .u8 (k.pr : Int), .int .u32 (k.sr : Int), .int .u32 (k.ds : Int), .int .u16 (k.sp : Int), .int .u16 (k.dp : Int), .int .u8 (k.fl : Int), .int .u8 (k.kd : Int)]] w fun e w' => e = .returned (.bool (hitB r k)) ∧ Below w.heap.size w w' := by
  have HR : Hid (hitB r k = false) := by
    show _ = _; unfold hitB; rw [protoB_any hp, h1, h2]; simp
  have H1 := Lib.hid (fun W => refHas_any r.sa k.sr r.sb ho.sa hk.sr W)
  rw [h1] at H1
  have H2 := Lib.hid (fun W => refHas_any r.da k.ds r.db ho.da hk.ds W)
  rw [h2] at H2
  have d0 : ((r.pr : Int) != 0) = false := by rw [hp]; rfl
  have HK := Lib.hid (Two.box w r k)
  clear ho hk hp h1 h2
  obtain ⟨x0, x1, x2, x3, x4, x5, x6, x7, x8, x9⟩ := HK.out.r.cells
  obtain ⟨y0, y1, y2, y3, y4, y5, y6⟩ := HK.out.k.cells
  go_enter Try.func11, Try.ntmps11
  go_wp2_with fail
  go_at_call 16
  refine (H1.out _).mono ?_
  rintro e w1 ⟨rfl, hb⟩
  have HK' := Lib.hid (HK.out.next hb)
  clear hb x0 x1 x2 x3 x4 x5 x6 x7 x8 x9 y0 y1 y2 y3 y4 y5 y6 HK H1
  have HK := HK'
  clear HK'
  obtain ⟨x0, x1, x2, x3, x4, x5, x6, x7, x8, x9⟩ := HK.out.r.cells
  obtain ⟨y0, y1, y2, y3, y4, y5, y6⟩ := HK.out.k.cells
  go_wp2_with fail
  go_at_call 16
  refine (H2.out _).mono ?_
  rintro e w2 ⟨rfl, hb⟩
  have HK' := Lib.hid (HK.out.next hb)
  clear hb x0 x1 x2 x3 x4 x5 x6 x7 x8 x9 y0 y1 y2 y3 y4 y5 y6 HK H2
  have HK := HK'
  clear HK'
  obtain ⟨x0, x1, x2, x3, x4, x5, x6, x7, x8, x9⟩ := HK.out.r.cells
  obtain ⟨y0, y1, y2, y3, y4, y5, y6⟩ := HK.out.k.cells
  (go_wp2_with fail; go_ret; exact ⟨ret_bool (by rw [HR.out]; try rfl), HK.out.r.bel⟩)
set_option maxRecDepth 100000 in
set_option maxHeartbeats 1000000 in
theorem refMatches_3 (r : R) (k : K) (ho : r.Ok) (hk : k.Ok) (w : World) (hp : r.pr = 0) (h1 : hasS r.sa r.sb k.sr = true) (h2 : hasS r.da r.db k.ds = true) (c1 c2 c3 c4 : Bool) (g1 : decide (r.sl ≤ k.sp) = c1) (g2 : decide (k.sp ≤ r.sh) = c2) (g3 : decide (r.dl ≤ k.dp) = c3) (g4 : decide (k.dp ≤ r.dh) = c4) :
    Calls Try.prog 11 #[.agg #[.bool r.acc, .int .u8 (r.pr : Int), .int .u32 (r.sa : Int), .int .i64 r.sb, .int .u32 (r.da : Int), .int .i64 r.db, .int .u16 (r.sl : Int), .int .u16 (r.sh : Int), .int .u16 (r.dl : Int), .int .u16 (r.dh : Int)], .agg #[.int .u8 (k.pr : Int), .int .u32 (k.sr : Int), .int .u32 (k.ds : Int), .int .u16 (k.sp : Int), .int .u16 (k.dp : Int), .int .u8 (k.fl : Int), .int .u8 (k.kd : Int)]] w fun e w' => e = .returned (.bool (hitB r k)) ∧ Below w.heap.size w w' := by
  have HR : Hid (hitB r k = ((c1 && c2) && (c3 && c4))) := by
    show _ = _; unfold hitB inB; rw [protoB_any hp, h1, h2, g1, g2, g3, g4]; simp
  have H1 := Lib.hid (fun W => refHas_any r.sa k.sr r.sb ho.sa hk.sr W)
  rw [h1] at H1
  have H2 := Lib.hid (fun W => refHas_any r.da k.ds r.db ho.da hk.ds W)
  rw [h2] at H2
  have d0 : ((r.pr : Int) != 0) = false := by rw [hp]; rfl
  have HK := Lib.hid (Two.box w r k)
  clear ho hk hp h1 h2
  obtain ⟨x0, x1, x2, x3, x4, x5, x6, x7, x8, x9⟩ := HK.out.r.cells
  obtain ⟨y0, y1, y2, y3, y4, y5, y6⟩ := HK.out.k.cells
  go_enter Try.func11, Try.ntmps11
  go_wp2_with fail
  go_at_call 16
  refine (H1.out _).mono ?_
  rintro e w1 ⟨rfl, hb⟩
  have HK' := Lib.hid (HK.out.next hb)
  clear hb x0 x1 x2 x3 x4 x5 x6 x7 x8 x9 y0 y1 y2 y3 y4 y5 y6 HK H1
  have HK := HK'
  clear HK'
  obtain ⟨x0, x1, x2, x3, x4, x5, x6, x7, x8, x9⟩ := HK.out.r.cells
  obtain ⟨y0, y1, y2, y3, y4, y5, y6⟩ := HK.out.k.cells
  go_wp2_with fail
  go_at_call 16
  refine (H2.out _).mono ?_
  rintro e w2 ⟨rfl, hb⟩
  have HK' := Lib.hid (HK.out.next hb)
  clear hb x0 x1 x2 x3 x4 x5 x6 x7 x8 x9 y0 y1 y2 y3 y4 y5 y6 HK H2
  have HK := HK'
  clear HK'
  obtain ⟨x0, x1, x2, x3, x4, x5, x6, x7, x8, x9⟩ := HK.out.r.cells
  obtain ⟨y0, y1, y2, y3, y4, y5, y6⟩ := HK.out.k.cells
  cases c1 <;> cases c2 <;> cases c3 <;> cases c4 <;> (go_wp2_with fail; go_ret; exact ⟨ret_bool (by rw [HR.out]; try rfl), HK.out.r.bel⟩)
set_option maxRecDepth 100000 in
set_option maxHeartbeats 1000000 in
theorem refMatches_4 (r : R) (k : K) (ho : r.Ok) (hk : k.Ok) (w : World) (hp : r.pr ≠ 0) (hq : r.pr = k.pr) (h1 : hasS r.sa r.sb k.sr = false) :
    Calls Try.prog 11 #[.agg #[.bool r.acc, .int .u8 (r.pr : Int), .int .u32 (r.sa : Int), .int .i64 r.sb, .int .u32 (r.da : Int), .int .i64 r.db, .int .u16 (r.sl : Int), .int .u16 (r.sh : Int), .int .u16 (r.dl : Int), .int .u16 (r.dh : Int)], .agg #[.int .u8 (k.pr : Int), .int .u32 (k.sr : Int), .int .u32 (k.ds : Int), .int .u16 (k.sp : Int), .int .u16 (k.dp : Int), .int .u8 (k.fl : Int), .int .u8 (k.kd : Int)]] w fun e w' => e = .returned (.bool (hitB r k)) ∧ Below w.heap.size w w' := by
  have HR : Hid (hitB r k = false) := by
    show _ = _; unfold hitB; rw [protoB_is hp, decide_eq_true hq, h1]; try rfl
  have H1 := Lib.hid (fun W => refHas_any r.sa k.sr r.sb ho.sa hk.sr W)
  rw [h1] at H1
  have d0 : ((r.pr : Int) != 0) = true := by rw [bne_iff_ne]; omega
  have d1 : ((r.pr : Int) != (k.pr : Int)) = false := by rw [hq]; exact bne_self_eq_false _
  have HK := Lib.hid (Two.box w r k)
  clear ho hk hp hq h1
  obtain ⟨x0, x1, x2, x3, x4, x5, x6, x7, x8, x9⟩ := HK.out.r.cells
  obtain ⟨y0, y1, y2, y3, y4, y5, y6⟩ := HK.out.k.cells
  go_enter Try.func11, Try.ntmps11
  go_wp2_with fail
  go_at_call 16
  refine (H1.out _).mono ?_
  rintro e w1 ⟨rfl, hb⟩
  have HK' := Lib.hid (HK.out.next hb)
  clear hb x0 x1 x2 x3 x4 x5 x6 x7 x8 x9 y0 y1 y2 y3 y4 y5 y6 HK H1
  have HK := HK'
  clear HK'
  obtain ⟨x0, x1, x2, x3, x4, x5, x6, x7, x8, x9⟩ := HK.out.r.cells
  obtain ⟨y0, y1, y2, y3, y4, y5, y6⟩ := HK.out.k.cells
  (go_wp2_with fail; go_ret; exact ⟨ret_bool (by rw [HR.out]; try rfl), HK.out.r.bel⟩)
set_option maxRecDepth 100000 in
set_option maxHeartbeats 1000000 in
theorem refMatches_5 (r : R) (k : K) (ho : r.Ok) (hk : k.Ok) (w : World) (hp : r.pr ≠ 0) (hq : r.pr = k.pr) (h1 : hasS r.sa r.sb k.sr = true) (h2 : hasS r.da r.db k.ds = false) :
    Calls Try.prog 11 #[.agg #[.bool r.acc, .int .u8 (r.pr : Int), .int .u32 (r.sa : Int), .int .i64 r.sb, .int .u32 (r.da : Int), .int .i64 r.db, .int .u16 (r.sl : Int), .int .u16 (r.sh : Int), .int .u16 (r.dl : Int), .int .u16 (r.dh : Int)], .agg #[.int .u8 (k.pr : Int), .int .u32 (k.sr : Int), .int .u32 (k.ds : Int), .int .u16 (k.sp : Int), .int .u16 (k.dp : Int), .int .u8 (k.fl : Int), .int .u8 (k.kd : Int)]] w fun e w' => e = .returned (.bool (hitB r k)) ∧ Below w.heap.size w w' := by
  have HR : Hid (hitB r k = false) := by
    show _ = _; unfold hitB; rw [protoB_is hp, decide_eq_true hq, h1, h2]; simp
  have H1 := Lib.hid (fun W => refHas_any r.sa k.sr r.sb ho.sa hk.sr W)
  rw [h1] at H1
  have H2 := Lib.hid (fun W => refHas_any r.da k.ds r.db ho.da hk.ds W)
  rw [h2] at H2
  have d0 : ((r.pr : Int) != 0) = true := by rw [bne_iff_ne]; omega
  have d1 : ((r.pr : Int) != (k.pr : Int)) = false := by rw [hq]; exact bne_self_eq_false _
  have HK := Lib.hid (Two.box w r k)
  clear ho hk hp hq h1 h2
  obtain ⟨x0, x1, x2, x3, x4, x5, x6, x7, x8, x9⟩ := HK.out.r.cells
  obtain ⟨y0, y1, y2, y3, y4, y5, y6⟩ := HK.out.k.cells
  go_enter Try.func11, Try.ntmps11
  go_wp2_with fail
  go_at_call 16
  refine (H1.out _).mono ?_
  rintro e w1 ⟨rfl, hb⟩
  have HK' := Lib.hid (HK.out.next hb)
  clear hb x0 x1 x2 x3 x4 x5 x6 x7 x8 x9 y0 y1 y2 y3 y4 y5 y6 HK H1
  have HK := HK'
  clear HK'
  obtain ⟨x0, x1, x2, x3, x4, x5, x6, x7, x8, x9⟩ := HK.out.r.cells
  obtain ⟨y0, y1, y2, y3, y4, y5, y6⟩ := HK.out.k.cells
  go_wp2_with fail
  go_at_call 16
  refine (H2.out _).mono ?_
  rintro e w2 ⟨rfl, hb⟩
  have HK' := Lib.hid (HK.out.next hb)
  clear hb x0 x1 x2 x3 x4 x5 x6 x7 x8 x9 y0 y1 y2 y3 y4 y5 y6 HK H2
  have HK := HK'
  clear HK'
  obtain ⟨x0, x1, x2, x3, x4, x5, x6, x7, x8, x9⟩ := HK.out.r.cells
  obtain ⟨y0, y1, y2, y3, y4, y5, y6⟩ := HK.out.k.cells
  (go_wp2_with fail; go_ret; exact ⟨ret_bool (by rw [HR.out]; try rfl), HK.out.r.bel⟩)
set_option maxRecDepth 100000 in
set_option maxHeartbeats 1000000 in
theorem refMatches_6 (r : R) (k : K) (ho : r.Ok) (hk : k.Ok) (w : World) (hp : r.pr ≠ 0) (hq : r.pr = k.pr) (h1 : hasS r.sa r.sb k.sr = true) (h2 : hasS r.da r.db k.ds = true) (c1 c2 c3 c4 : Bool) (g1 : decide (r.sl ≤ k.sp) = c1) (g2 : decide (k.sp ≤ r.sh) = c2) (g3 : decide (r.dl ≤ k.dp) = c3) (g4 : decide (k.dp ≤ r.dh) = c4) :
    Calls Try.prog 11 #[.agg #[.bool r.acc, .int .u8 (r.pr : Int), .int .u32 (r.sa : Int), .int .i64 r.sb, .int .u32 (r.da : Int), .int .i64 r.db, .int .u16 (r.sl : Int), .int .u16 (r.sh : Int), .int .u16 (r.dl : Int), .int .u16 (r.dh : Int)], .agg #[.int .u8 (k.pr : Int), .int .u32 (k.sr : Int), .int .u32 (k.ds : Int), .int .u16 (k.sp : Int), .int .u16 (k.dp : Int), .int .u8 (k.fl : Int), .int .u8 (k.kd : Int)]] w fun e w' => e = .returned (.bool (hitB r k)) ∧ Below w.heap.size w w' := by
  have HR : Hid (hitB r k = ((c1 && c2) && (c3 && c4))) := by
    show _ = _; unfold hitB inB; rw [protoB_is hp, decide_eq_true hq, h1, h2, g1, g2, g3, g4]; simp
  have H1 := Lib.hid (fun W => refHas_any r.sa k.sr r.sb ho.sa hk.sr W)
  rw [h1] at H1
  have H2 := Lib.hid (fun W => refHas_any r.da k.ds r.db ho.da hk.ds W)
  rw [h2] at H2
  have d0 : ((r.pr : Int) != 0) = true := by rw [bne_iff_ne]; omega
  have d1 : ((r.pr : Int) != (k.pr : Int)) = false := by rw [hq]; exact bne_self_eq_false _
  have HK := Lib.hid (Two.box w r k)
  clear ho hk hp hq h1 h2
  obtain ⟨x0, x1, x2, x3, x4, x5, x6, x7, x8, x9⟩ := HK.out.r.cells
  obtain ⟨y0, y1, y2, y3, y4, y5, y6⟩ := HK.out.k.cells
  go_enter Try.func11, Try.ntmps11
  go_wp2_with fail
  go_at_call 16
  refine (H1.out _).mono ?_
  rintro e w1 ⟨rfl, hb⟩
  have HK' := Lib.hid (HK.out.next hb)
  clear hb x0 x1 x2 x3 x4 x5 x6 x7 x8 x9 y0 y1 y2 y3 y4 y5 y6 HK H1
  have HK := HK'
  clear HK'
  obtain ⟨x0, x1, x2, x3, x4, x5, x6, x7, x8, x9⟩ := HK.out.r.cells
  obtain ⟨y0, y1, y2, y3, y4, y5, y6⟩ := HK.out.k.cells
  go_wp2_with fail
  go_at_call 16
  refine (H2.out _).mono ?_
  rintro e w2 ⟨rfl, hb⟩
  have HK' := Lib.hid (HK.out.next hb)
  clear hb x0 x1 x2 x3 x4 x5 x6 x7 x8 x9 y0 y1 y2 y3 y4 y5 y6 HK H2
  have HK := HK'
  clear HK'
  obtain ⟨x0, x1, x2, x3, x4, x5, x6, x7, x8, x9⟩ := HK.out.r.cells
  obtain ⟨y0, y1, y2, y3, y4, y5, y6⟩ := HK.out.k.cells
  cases c1 <;> cases c2 <;> cases c3 <;> cases c4 <;> (go_wp2_with fail; go_ret; exact ⟨ret_bool (by rw [HR.out]; try rfl), HK.out.r.bel⟩)
theorem refMatches_any (r : R) (k : K) (ho : r.Ok) (hk : k.Ok) (w : World) :
    Calls Try.prog 11 #[.agg #[.bool r.acc, .int .u8 (r.pr : Int), .int .u32 (r.sa : Int), .int .i64 r.sb, .int .u32 (r.da : Int), .int .i64 r.db, .int .u16 (r.sl : Int), .int .u16 (r.sh : Int), .int .u16 (r.dl : Int), .int .u16 (r.dh : Int)], .agg #[.int .u8 (k.pr : Int), .int .u32 (k.sr : Int), .int .u32 (k.ds : Int), .int .u16 (k.sp : Int), .int .u16 (k.dp : Int), .int .u8 (k.fl : Int), .int .u8 (k.kd : Int)]] w fun e w' => e = .returned (.bool (hitB r k)) ∧ Below w.heap.size w w' := by
  by_cases hp : r.pr = 0
  · cases h1 : hasS r.sa r.sb k.sr
    · exact refMatches_1 r k ho hk w hp h1
    · cases h2 : hasS r.da r.db k.ds
      · exact refMatches_2 r k ho hk w hp h1 h2
      · exact refMatches_3 r k ho hk w hp h1 h2 _ _ _ _ rfl rfl rfl rfl
  · by_cases hq : r.pr = k.pr
    · cases h1 : hasS r.sa r.sb k.sr
      · exact refMatches_4 r k ho hk w hp hq h1
      · cases h2 : hasS r.da r.db k.ds
        · exact refMatches_5 r k ho hk w hp hq h1 h2
        · exact refMatches_6 r k ho hk w hp hq h1 h2 _ _ _ _ rfl rfl rfl rfl
    · exact refMatches_0 r k ho hk w hp hq
end Ma
end Go.Proofs.Ytaniiofoaaekbaa
