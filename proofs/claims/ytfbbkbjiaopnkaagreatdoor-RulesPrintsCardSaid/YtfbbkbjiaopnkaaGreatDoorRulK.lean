/- Layer 12: the contracts of the reference's word, Good, span, Line. (Written by wip/tools/mkRulK.py.) -/
import Derived.Test.YtfbbkbjiaopnkaaGreatDoorRulD
import Derived.Test.YtfbbkbjiaopnkaaGreatDoorRulF
import Derived.Test.YtfbbkbjiaopnkaaGreatDoorAdrT
import Derived.IntWalk
set_option linter.unusedVariables false
set_option linter.unusedSimpArgs false
namespace Go.Proofs.YtfbbkbjiaopnkaaGreatDoor
open Go.ChangeShapes Go.WideShapes Go.ChangeAt Go.RowKit Go.Mtl Go.Shelf Go.Lib
namespace Ru
open RulM (R wordS known known_iff spanS netL verdL goodR goodR_iff wordsR lineR)
open AdrM (anyL validS showS)

set_option maxRecDepth 100000 in
theorem word_any (p : Nat) (x : Int) (hx : x = (p : Int)) (w : World) : Calls Tryz.prog 17 #[.int .u8 x] w fun e w' => e = .returned (.string ⟨(wordS p).toArray⟩) ∧ w' = w := by
  subst hx
  by_cases h0 : p = 0
  · subst h0
    go_enter Tryz.func17, Tryz.ntmps17
    go_wp2_with fail
    go_ret
    exact ⟨rfl, rfl⟩
  · have d0 : ((p : Int) == 0) = false := by rw [beq_eq_false_iff_ne]; omega
    by_cases h1 : p = 1
    · subst h1
      go_enter Tryz.func17, Tryz.ntmps17
      go_wp2_with fail
      go_ret
      exact ⟨rfl, rfl⟩
    · have d1 : ((p : Int) == 1) = false := by rw [beq_eq_false_iff_ne]; omega
      by_cases h6 : p = 6
      · subst h6
        go_enter Tryz.func17, Tryz.ntmps17
        go_wp2_with fail
        go_ret
        exact ⟨rfl, rfl⟩
      · have d6 : ((p : Int) == 6) = false := by rw [beq_eq_false_iff_ne]; omega
        by_cases h17 : p = 17
        · subst h17
          go_enter Tryz.func17, Tryz.ntmps17
          go_wp2_with fail
          go_ret
          exact ⟨rfl, rfl⟩
        · have d17 : ((p : Int) == 17) = false := by rw [beq_eq_false_iff_ne]; omega
          have HW : Hid (wordS p = []) := by show _ = _; unfold RulM.wordS; rw [if_neg h0, if_neg h1, if_neg h6, if_neg h17]
          clear h0 h1 h6 h17
          go_enter Tryz.func17, Tryz.ntmps17
          go_wp2_with fail
          go_ret
          exact ⟨ret_str HW.out.symm, rfl⟩

theorem leq_int {a b : Nat} {c : Bool} (h : decide (a ≤ b) = c) : decide ((a : Int) ≤ (b : Int)) = c := by rw [← h]; exact decide_eq_decide.2 (by omega)
set_option maxRecDepth 100000 in
set_option maxHeartbeats 1000000 in
theorem refGood_0 (r : R) (ho : r.Ok) (w : World)  (h0 : known r.pr = false) :
    Calls Tryz.prog 12 #[.agg #[.bool r.acc, .int .u8 (r.pr : Int), .int .u32 (r.sa : Int), .int .i64 r.sb, .int .u32 (r.da : Int), .int .i64 r.db, .int .u16 (r.sl : Int), .int .u16 (r.sh : Int), .int .u16 (r.dl : Int), .int .u16 (r.dh : Int)]] w fun e w' => e = .returned (.bool false) ∧ Below w.heap.size w w' := by
  have H0 := Lib.hid (fun W => word_any r.pr (r.pr : Int) rfl W)
  have hwe : wordS r.pr = [] := word_no h0
  rw [hwe] at H0
  clear hwe
  have K := RAt.box w r
  clear ho h0
  have HK0 := Lib.hid K
  have d1 := K.c1
  clear K
  go_enter Tryz.func12, Tryz.ntmps12
  go_wp2_with fail
  go_at_call 17
  refine (H0.out _).mono ?_
  rintro e w1 ⟨rfl, rfl⟩
  go_wp2_with fail
  go_ret
  exact ⟨rfl, HK0.out.bel⟩
set_option maxRecDepth 100000 in
set_option maxHeartbeats 1000000 in
theorem refGood_1 (r : R) (ho : r.Ok) (w : World) (h0 : known r.pr = true) (h1 : validS r.sa r.sb = false) :
    Calls Tryz.prog 12 #[.agg #[.bool r.acc, .int .u8 (r.pr : Int), .int .u32 (r.sa : Int), .int .i64 r.sb, .int .u32 (r.da : Int), .int .i64 r.db, .int .u16 (r.sl : Int), .int .u16 (r.sh : Int), .int .u16 (r.dl : Int), .int .u16 (r.dh : Int)]] w fun e w' => e = .returned (.bool false) ∧ Below w.heap.size w w' := by
  have H0 := Lib.hid (fun W => word_any r.pr (r.pr : Int) rfl W)
  have hne : ¬ wordS r.pr = [] := RulM.ne_word h0
  have hne2 : (wordS r.pr).isEmpty = false := by cases hw : wordS r.pr with
    | nil => exact absurd hw hne
    | cons => rfl
  have hne3 : (wordS r.pr == []) = false := by rw [beq_eq_false_iff_ne]; exact hne
  generalize wordS r.pr = wp at *
  have H1 := Lib.hid (fun W => Ad.may_any r.sa r.sb ho.sa W)
  rw [h1] at H1
  have K := RAt.box w r
  clear ho h0 h1
  have HK0 := Lib.hid K
  have d1 := K.c1
  clear K
  go_enter Tryz.func12, Tryz.ntmps12
  go_wp2_with fail
  go_at_call 17
  refine (H0.out _).mono ?_
  rintro e w1 ⟨rfl, rfl⟩
  have d2 := HK0.out.c2
  have d3 := HK0.out.c3
  go_wp2_with fail
  go_at_call 26
  refine (H1.out _).mono ?_
  rintro e w2 ⟨rfl, hb⟩
  have HK1 := Lib.hid (HK0.out.next hb)
  clear hb d1 d2 d3
  go_wp2_with fail
  go_ret
  exact ⟨rfl, HK1.out.bel⟩
set_option maxRecDepth 100000 in
set_option maxHeartbeats 1000000 in
theorem refGood_2 (r : R) (ho : r.Ok) (w : World) (h0 : known r.pr = true) (h1 : validS r.sa r.sb = true) (h2 : validS r.da r.db = false) :
    Calls Tryz.prog 12 #[.agg #[.bool r.acc, .int .u8 (r.pr : Int), .int .u32 (r.sa : Int), .int .i64 r.sb, .int .u32 (r.da : Int), .int .i64 r.db, .int .u16 (r.sl : Int), .int .u16 (r.sh : Int), .int .u16 (r.dl : Int), .int .u16 (r.dh : Int)]] w fun e w' => e = .returned (.bool false) ∧ Below w.heap.size w w' := by
  have H0 := Lib.hid (fun W => word_any r.pr (r.pr : Int) rfl W)
  have hne : ¬ wordS r.pr = [] := RulM.ne_word h0
  have hne2 : (wordS r.pr).isEmpty = false := by cases hw : wordS r.pr with
    | nil => exact absurd hw hne
    | cons => rfl
  have hne3 : (wordS r.pr == []) = false := by rw [beq_eq_false_iff_ne]; exact hne
  generalize wordS r.pr = wp at *
  have H1 := Lib.hid (fun W => Ad.may_any r.sa r.sb ho.sa W)
  rw [h1] at H1
  have H2 := Lib.hid (fun W => Ad.may_any r.da r.db ho.da W)
  rw [h2] at H2
  have K := RAt.box w r
  clear ho h0 h1 h2
  have HK0 := Lib.hid K
  have d1 := K.c1
  clear K
  go_enter Tryz.func12, Tryz.ntmps12
  go_wp2_with fail
  go_at_call 17
  refine (H0.out _).mono ?_
  rintro e w1 ⟨rfl, rfl⟩
  have d2 := HK0.out.c2
  have d3 := HK0.out.c3
  go_wp2_with fail
  go_at_call 26
  refine (H1.out _).mono ?_
  rintro e w2 ⟨rfl, hb⟩
  have HK1 := Lib.hid (HK0.out.next hb)
  clear hb d1 d2 d3
  have d4 := HK1.out.c4
  have d5 := HK1.out.c5
  go_wp2_with fail
  go_at_call 26
  refine (H2.out _).mono ?_
  rintro e w3 ⟨rfl, hb⟩
  have HK2 := Lib.hid (HK1.out.next hb)
  clear hb d4 d5
  go_wp2_with fail
  go_ret
  exact ⟨rfl, HK2.out.bel⟩
set_option maxRecDepth 100000 in
set_option maxHeartbeats 1000000 in
theorem refGood_3 (r : R) (ho : r.Ok) (w : World) (h0 : known r.pr = true) (h1 : validS r.sa r.sb = true) (h2 : validS r.da r.db = true) (h3 : decide (r.sl ≤ r.sh) = false) :
    Calls Tryz.prog 12 #[.agg #[.bool r.acc, .int .u8 (r.pr : Int), .int .u32 (r.sa : Int), .int .i64 r.sb, .int .u32 (r.da : Int), .int .i64 r.db, .int .u16 (r.sl : Int), .int .u16 (r.sh : Int), .int .u16 (r.dl : Int), .int .u16 (r.dh : Int)]] w fun e w' => e = .returned (.bool false) ∧ Below w.heap.size w w' := by
  have H0 := Lib.hid (fun W => word_any r.pr (r.pr : Int) rfl W)
  have hne : ¬ wordS r.pr = [] := RulM.ne_word h0
  have hne2 : (wordS r.pr).isEmpty = false := by cases hw : wordS r.pr with
    | nil => exact absurd hw hne
    | cons => rfl
  have hne3 : (wordS r.pr == []) = false := by rw [beq_eq_false_iff_ne]; exact hne
  generalize wordS r.pr = wp at *
  have H1 := Lib.hid (fun W => Ad.may_any r.sa r.sb ho.sa W)
  rw [h1] at H1
  have H2 := Lib.hid (fun W => Ad.may_any r.da r.db ho.da W)
  rw [h2] at H2
  have K := RAt.box w r
  clear ho h0 h1 h2
  have HK0 := Lib.hid K
  have d1 := K.c1
  clear K
  go_enter Tryz.func12, Tryz.ntmps12
  go_wp2_with fail
  go_at_call 17
  refine (H0.out _).mono ?_
  rintro e w1 ⟨rfl, rfl⟩
  have d2 := HK0.out.c2
  have d3 := HK0.out.c3
  go_wp2_with fail
  go_at_call 26
  refine (H1.out _).mono ?_
  rintro e w2 ⟨rfl, hb⟩
  have HK1 := Lib.hid (HK0.out.next hb)
  clear hb d1 d2 d3
  have d4 := HK1.out.c4
  have d5 := HK1.out.c5
  go_wp2_with fail
  go_at_call 26
  refine (H2.out _).mono ?_
  rintro e w3 ⟨rfl, hb⟩
  have HK2 := Lib.hid (HK1.out.next hb)
  clear hb d4 d5
  have d6 := HK2.out.c6
  have d7 := HK2.out.c7
  have d8 := HK2.out.c8
  have d9 := HK2.out.c9
  go_wp2_with fail
  go_ret
  exact ⟨rfl, HK2.out.bel⟩
set_option maxRecDepth 100000 in
set_option maxHeartbeats 1000000 in
theorem refGood_4 (r : R) (ho : r.Ok) (w : World) (h0 : known r.pr = true) (h1 : validS r.sa r.sb = true) (h2 : validS r.da r.db = true) (h3 : decide (r.sl ≤ r.sh) = true) (h4 : decide (r.dl ≤ r.dh) = false) :
    Calls Tryz.prog 12 #[.agg #[.bool r.acc, .int .u8 (r.pr : Int), .int .u32 (r.sa : Int), .int .i64 r.sb, .int .u32 (r.da : Int), .int .i64 r.db, .int .u16 (r.sl : Int), .int .u16 (r.sh : Int), .int .u16 (r.dl : Int), .int .u16 (r.dh : Int)]] w fun e w' => e = .returned (.bool false) ∧ Below w.heap.size w w' := by
  have H0 := Lib.hid (fun W => word_any r.pr (r.pr : Int) rfl W)
  have hne : ¬ wordS r.pr = [] := RulM.ne_word h0
  have hne2 : (wordS r.pr).isEmpty = false := by cases hw : wordS r.pr with
    | nil => exact absurd hw hne
    | cons => rfl
  have hne3 : (wordS r.pr == []) = false := by rw [beq_eq_false_iff_ne]; exact hne
  generalize wordS r.pr = wp at *
  have H1 := Lib.hid (fun W => Ad.may_any r.sa r.sb ho.sa W)
  rw [h1] at H1
  have H2 := Lib.hid (fun W => Ad.may_any r.da r.db ho.da W)
  rw [h2] at H2
  have K := RAt.box w r
  clear ho h0 h1 h2
  have HK0 := Lib.hid K
  have d1 := K.c1
  clear K
  go_enter Tryz.func12, Tryz.ntmps12
  go_wp2_with fail
  go_at_call 17
  refine (H0.out _).mono ?_
  rintro e w1 ⟨rfl, rfl⟩
  have d2 := HK0.out.c2
  have d3 := HK0.out.c3
  go_wp2_with fail
  go_at_call 26
  refine (H1.out _).mono ?_
  rintro e w2 ⟨rfl, hb⟩
  have HK1 := Lib.hid (HK0.out.next hb)
  clear hb d1 d2 d3
  have d4 := HK1.out.c4
  have d5 := HK1.out.c5
  go_wp2_with fail
  go_at_call 26
  refine (H2.out _).mono ?_
  rintro e w3 ⟨rfl, hb⟩
  have HK2 := Lib.hid (HK1.out.next hb)
  clear hb d4 d5
  have d6 := HK2.out.c6
  have d7 := HK2.out.c7
  have d8 := HK2.out.c8
  have d9 := HK2.out.c9
  go_wp2_with fail
  go_ret
  first | exact ⟨rfl, HK2.out.bel⟩ | exact ⟨ret_bool h4, HK2.out.bel⟩
set_option maxRecDepth 100000 in
set_option maxHeartbeats 1000000 in
theorem refGood_5 (r : R) (ho : r.Ok) (w : World) (h0 : known r.pr = true) (h1 : validS r.sa r.sb = true) (h2 : validS r.da r.db = true) (h3 : decide (r.sl ≤ r.sh) = true) (h4 : decide (r.dl ≤ r.dh) = true) :
    Calls Tryz.prog 12 #[.agg #[.bool r.acc, .int .u8 (r.pr : Int), .int .u32 (r.sa : Int), .int .i64 r.sb, .int .u32 (r.da : Int), .int .i64 r.db, .int .u16 (r.sl : Int), .int .u16 (r.sh : Int), .int .u16 (r.dl : Int), .int .u16 (r.dh : Int)]] w fun e w' => e = .returned (.bool true) ∧ Below w.heap.size w w' := by
  have H0 := Lib.hid (fun W => word_any r.pr (r.pr : Int) rfl W)
  have hne : ¬ wordS r.pr = [] := RulM.ne_word h0
  have hne2 : (wordS r.pr).isEmpty = false := by cases hw : wordS r.pr with
    | nil => exact absurd hw hne
    | cons => rfl
  have hne3 : (wordS r.pr == []) = false := by rw [beq_eq_false_iff_ne]; exact hne
  generalize wordS r.pr = wp at *
  have H1 := Lib.hid (fun W => Ad.may_any r.sa r.sb ho.sa W)
  rw [h1] at H1
  have H2 := Lib.hid (fun W => Ad.may_any r.da r.db ho.da W)
  rw [h2] at H2
  have K := RAt.box w r
  clear ho h0 h1 h2
  have HK0 := Lib.hid K
  have d1 := K.c1
  clear K
  go_enter Tryz.func12, Tryz.ntmps12
  go_wp2_with fail
  go_at_call 17
  refine (H0.out _).mono ?_
  rintro e w1 ⟨rfl, rfl⟩
  have d2 := HK0.out.c2
  have d3 := HK0.out.c3
  go_wp2_with fail
  go_at_call 26
  refine (H1.out _).mono ?_
  rintro e w2 ⟨rfl, hb⟩
  have HK1 := Lib.hid (HK0.out.next hb)
  clear hb d1 d2 d3
  have d4 := HK1.out.c4
  have d5 := HK1.out.c5
  go_wp2_with fail
  go_at_call 26
  refine (H2.out _).mono ?_
  rintro e w3 ⟨rfl, hb⟩
  have HK2 := Lib.hid (HK1.out.next hb)
  clear hb d4 d5
  have d6 := HK2.out.c6
  have d7 := HK2.out.c7
  have d8 := HK2.out.c8
  have d9 := HK2.out.c9
  go_wp2_with fail
  go_ret
  first | exact ⟨rfl, HK2.out.bel⟩ | exact ⟨ret_bool h4, HK2.out.bel⟩
theorem refGood_any (r : R) (ho : r.Ok) (w : World) :
    Calls Tryz.prog 12 #[.agg #[.bool r.acc, .int .u8 (r.pr : Int), .int .u32 (r.sa : Int), .int .i64 r.sb, .int .u32 (r.da : Int), .int .i64 r.db, .int .u16 (r.sl : Int), .int .u16 (r.sh : Int), .int .u16 (r.dl : Int), .int .u16 (r.dh : Int)]] w fun e w' => e = .returned (.bool (goodR r)) ∧ Below w.heap.size w w' := by
  unfold goodR
  cases h0 : known r.pr with
  | false => exact (refGood_0 r ho w h0).mono fun e w' ⟨a, b⟩ => ⟨by rw [a]; simp only [h0, Bool.false_and, Bool.and_false], b⟩
  | true =>
    cases h1 : validS r.sa r.sb with
    | false => exact (refGood_1 r ho w h0 h1).mono fun e w' ⟨a, b⟩ => ⟨by rw [a]; simp only [h1, Bool.false_and, Bool.and_false], b⟩
    | true =>
      cases h2 : validS r.da r.db with
      | false => exact (refGood_2 r ho w h0 h1 h2).mono fun e w' ⟨a, b⟩ => ⟨by rw [a]; simp only [h2, Bool.false_and, Bool.and_false], b⟩
      | true =>
        cases h3 : decide (r.sl ≤ r.sh) with
        | false => exact (refGood_3 r ho w h0 h1 h2 h3).mono fun e w' ⟨a, b⟩ => ⟨by rw [a]; simp only [h3, Bool.false_and, Bool.and_false], b⟩
        | true =>
          cases h4 : decide (r.dl ≤ r.dh) with
          | false => exact (refGood_4 r ho w h0 h1 h2 h3 h4).mono fun e w' ⟨a, b⟩ => ⟨by rw [a]; simp only [h4, Bool.false_and, Bool.and_false], b⟩
          | true =>
            exact (refGood_5 r ho w h0 h1 h2 h3 h4).mono fun e w' ⟨a, b⟩ => ⟨by rw [a]; rfl, b⟩
theorem sp_of {w W : World} {a b : Value} (h : SAt w w.heap.size a b W) : W.cell? ⟨w.heap.size, 0, none⟩ = some a ∧ W.cell? ⟨w.heap.size, 1, none⟩ = some b ∧ Hid (SAt w w.heap.size a b W) := ⟨h.c0, h.c1, h⟩
set_option maxRecDepth 100000 in
set_option maxHeartbeats 1000000 in
theorem span_any0 (w : World) : Calls Tryz.prog 39 #[.agg #[.int .u16 0, .int .u16 65535]] w fun e w' => e = .returned (.string ⟨(spanS 0 65535).toArray⟩) ∧ Below w.heap.size w w' := by
  have HB := Lib.hid (below_box w (.cells #[.int .u16 0, .int .u16 65535] 36))
  go_enter Tryz.func39, Tryz.ntmps39
  go_wp2_with fail
  go_ret
  exact ⟨rfl, HB.out⟩
set_option maxRecDepth 100000 in
set_option maxHeartbeats 1000000 in
theorem span_any1 (a : Nat) (ha : a < 65536) (w : World) : Calls Tryz.prog 39 #[.agg #[.int .u16 (a : Int), .int .u16 (a : Int)]] w fun e w' => e = .returned (.string ⟨(spanS a a).toArray⟩) ∧ Below w.heap.size w w' := by
  have HB := Lib.hid (below_box w (.cells #[.int .u16 (a : Int), .int .u16 (a : Int)] 36))
  have HS := Lib.hid (span_one (a := a) (b := a) (by omega) rfl)
  have HI := Lib.hid (fun W => Ad.numI_any (a : Int) a rfl (by omega) W)
  by_cases h0 : a = 0
  · subst h0
    go_enter Tryz.func39, Tryz.ntmps39
    go_wp2_with fail
    go_at_call 55
    refine (HI.out _).mono ?_
    rintro e w1 ⟨rfl, hb1⟩
    have HB1 := Lib.hid (below_then HB.out hb1)
    clear hb1
    go_wp2_with fail
    go_ret
    exact ⟨ret_str HS.out.symm, HB1.out⟩
  · have hd : ((a : Int) == 0) = false := by rw [beq_eq_false_iff_ne]; omega
    clear h0
    go_enter Tryz.func39, Tryz.ntmps39
    go_wp2_with fail
    go_at_call 55
    refine (HI.out _).mono ?_
    rintro e w1 ⟨rfl, hb1⟩
    have HB1 := Lib.hid (below_then HB.out hb1)
    clear hb1
    go_wp2_with fail
    go_ret
    exact ⟨ret_str HS.out.symm, HB1.out⟩
set_option maxRecDepth 100000 in
set_option maxHeartbeats 1000000 in
theorem span_any2 (a b : Nat) (ha : a < 65536) (hb : b < 65536) (h1 : ¬ (a = 0 ∧ b = 65535)) (h2 : a ≠ b) (w : World) :
    Calls Tryz.prog 39 #[.agg #[.int .u16 (a : Int), .int .u16 (b : Int)]] w fun e w' => e = .returned (.string ⟨(spanS a b).toArray⟩) ∧ Below w.heap.size w w' := by
  have HB := Lib.hid (SAt.box (w := w) (.int .u16 (a : Int)) (.int .u16 (b : Int)) (Below.refl _ _))
  have HS := Lib.hid (span_two h1 h2)
  have HI := Lib.hid (fun W => Ad.numI_any (a : Int) a rfl (by omega) W)
  have HJ := Lib.hid (fun W => Ad.numI_any (b : Int) b rfl (by omega) W)
  have hab : ((a : Int) == (b : Int)) = false := by rw [beq_eq_false_iff_ne]; omega
  have l1 := AdrM.decDigits_len_le 4 a (by omega)
  have l2 := AdrM.decDigits_len_le 4 b (by omega)
  generalize decDigits a = da at *
  generalize decDigits b = db at *
  have hwa : IntKind.i64.wrap (a : Int) = (a : Int) := IntWalk.i64_in _ (by omega)
  have hwb : IntKind.i64.wrap (b : Int) = (b : Int) := IntWalk.i64_in _ (by omega)
  obtain ⟨z1, hz1⟩ : ∃ z, da ++ [45] = z := ⟨_, rfl⟩
  obtain ⟨z2, hz2⟩ : ∃ z, z1 ++ db = z := ⟨_, rfl⟩
  have hA1 := fun W => Ad.add_textE (P := Tryz.prog) da [45] z1 hz1 (by omega) (by simp) W
  have hA2 := fun W => Ad.add_textE (P := Tryz.prog) z1 db z2 hz2 (by rw [← hz1]; simp; omega) (by omega) W
  have HZ1 := Lib.hid hz1
  have HZ2 := Lib.hid hz2
  clear l1 l2 hz1 hz2
  by_cases h0 : a = 0
  · have hd0 : ((a : Int) == 0) = true := by rw [beq_iff_eq]; omega
    have hd1 : ((b : Int) == 65535) = false := by rw [beq_eq_false_iff_ne]; omega
    clear h0 h1 h2
    go_enter Tryz.func39, Tryz.ntmps39
    go_wp2_with fail
    refine wp_region_held_drew (S := (fun w' => w'.cell? ⟨w.heap.size, 0, none⟩ = some (.int .u16 (a : Int)) ∧ w'.cell? ⟨w.heap.size, 1, none⟩ = some (.int .u16 (b : Int)) ∧ Hid (SAt w w.heap.size (.int .u16 (a : Int)) (.int .u16 (b : Int)) w'))) (by kernel_rfl) (sp_of (HB.out.next (Below.refl _ _).drew)) (fun hH => ?_)
    refine wpAnyH_take (i := 0) (oi := ⟨some 20, _, _, _, _, _⟩) (v := ?v1) rfl (by kernel_rfl) (by kernel_rfl) (by kernel_rfl) (fun _ _ _ h => h) (Or.inl ⟨rfl, ?c1⟩) hH ?r1
    case c1 => (intro w' _; go_simp; (try with_reducible rfl))
    try simp only [Act.put, List.setIfInBounds_toArray, List.set_cons_zero, List.set_cons_succ]
    refine wpAnyH_take (i := 1) (oi := ⟨some 21, _, _, _, _, _⟩) (v := ?v2) rfl (by kernel_rfl) (by kernel_rfl) (by kernel_rfl) (fun _ _ _ h => h) (Or.inl ⟨rfl, ?c2⟩) hH ?r2
    case c2 => (intro w' hS; (try dsimp only at hS); go_simp; (try with_reducible rfl))
    try simp only [Act.put, List.setIfInBounds_toArray, List.set_cons_zero, List.set_cons_succ]
    refine wpAnyH_take (i := 2) (oi := ⟨some 22, _, _, _, _, _⟩) (v := ?v3) rfl (by kernel_rfl) (by kernel_rfl) (by kernel_rfl) (fun _ _ _ h => h) (Or.inl ⟨rfl, ?c3⟩) hH ?r3
    case c3 => (intro w' _; go_simp; (try with_reducible rfl))
    try simp only [Act.put, List.setIfInBounds_toArray, List.set_cons_zero, List.set_cons_succ]
    refine wpAnyH_take (i := 5) (oi := ⟨some 25, _, _, _, _, _⟩) (v := ?v4) rfl (by kernel_rfl) (by kernel_rfl) (by kernel_rfl) (fun _ _ _ h => h) (Or.inl ⟨rfl, ?c4⟩) hH ?r4
    case c4 => (intro w' _; go_simp; (try with_reducible rfl))
    try simp only [Act.put, List.setIfInBounds_toArray, List.set_cons_zero, List.set_cons_succ]
    refine wpAnyH_take (i := 6) (oi := ⟨some 26, _, _, _, _, _⟩) (v := ?v5) rfl (by kernel_rfl) (by kernel_rfl) (by kernel_rfl) (fun _ _ _ h => h) (Or.inl ⟨rfl, ?c5⟩) hH ?r5
    case c5 => (intro w' hS; (try dsimp only at hS); go_simp; (try with_reducible rfl))
    try simp only [Act.put, List.setIfInBounds_toArray, List.set_cons_zero, List.set_cons_succ]
    refine wpAnyH_take (i := 7) (oi := ⟨some 27, _, _, _, _, _⟩) (v := ?v6) rfl (by kernel_rfl) (by kernel_rfl) (by kernel_rfl) (fun _ _ _ h => h) (Or.inl ⟨rfl, ?c6⟩) hH ?r6
    case c6 => (intro w' _; go_simp; (try with_reducible rfl))
    try simp only [Act.put, List.setIfInBounds_toArray, List.set_cons_zero, List.set_cons_succ]
    refine wpAnyH_ready (rs := [3]) (by kernel_rfl) (by simp) (AllReadyH.cons rfl (fun K hK => ?_) (AllReadyH.nil))
    go_simp
    go_at_call 55
    refine (HI.out _).mono ?_
    rintro e w6 ⟨rfl, hb6⟩
    refine hK.out _ _ (sp_of (hH.2.2.out.next hb6)) (fun hH => ?_)
    clear hK K
    clear hb6
    try simp only [Act.put, List.setIfInBounds_toArray, List.set_cons_zero, List.set_cons_succ]
    refine wpAnyH_take (i := 4) (oi := ⟨some 24, _, _, _, _, _⟩) (v := ?v7) rfl (by kernel_rfl) (by kernel_rfl) (by kernel_rfl) (fun _ _ _ h => h) (Or.inl ⟨rfl, ?c7⟩) hH ?r7
    case c7 => (intro w' _; go_simp; (try with_reducible rfl))
    try simp only [Act.put, List.setIfInBounds_toArray, List.set_cons_zero, List.set_cons_succ]
    refine wpAnyH_ready (rs := [8]) (by kernel_rfl) (by simp) (AllReadyH.cons rfl (fun K hK => ?_) (AllReadyH.nil))
    go_simp
    go_at_call 55
    refine (HJ.out _).mono ?_
    rintro e w7 ⟨rfl, hb7⟩
    refine hK.out _ _ (sp_of (hH.2.2.out.next hb7)) (fun hH => ?_)
    clear hK K
    clear hb7
    try simp only [Act.put, List.setIfInBounds_toArray, List.set_cons_zero, List.set_cons_succ]
    refine wpAnyH_take (i := 9) (oi := ⟨some 29, _, _, _, _, _⟩) (v := ?v8) rfl (by kernel_rfl) (by kernel_rfl) (by kernel_rfl) (fun _ _ _ h => h) (Or.inl ⟨rfl, ?c8⟩) hH ?r8
    case c8 => (intro w' _; go_simp; (try with_reducible rfl))
    try simp only [Act.put, List.setIfInBounds_toArray, List.set_cons_zero, List.set_cons_succ]
    refine wpAnyH_take (i := 10) (oi := ⟨some 2, _, _, _, _, _⟩) (v := ?v9) rfl (by kernel_rfl) (by kernel_rfl) (by kernel_rfl) (fun _ _ _ h => h) (Or.inl ⟨rfl, ?c9⟩) hH ?r9
    case c9 => (intro w' _; go_simp; (try with_reducible rfl))
    try simp only [Act.put, List.setIfInBounds_toArray, List.set_cons_zero, List.set_cons_succ]
    refine wpAnyH_done (by kernel_rfl) ?_ _
    have HB2 := Lib.hid hH.2.2.out.bel
    clear hH
    go_wp2_with fail
    go_ret
    exact ⟨ret_str (by rw [HS.out, HZ1.out, HZ2.out]), HB2.out⟩

  · have hd0 : ((a : Int) == 0) = false := by rw [beq_eq_false_iff_ne]; omega
    clear h0 h1 h2
    go_enter Tryz.func39, Tryz.ntmps39
    go_wp2_with fail
    refine wp_region_held_drew (S := (fun w' => w'.cell? ⟨w.heap.size, 0, none⟩ = some (.int .u16 (a : Int)) ∧ w'.cell? ⟨w.heap.size, 1, none⟩ = some (.int .u16 (b : Int)) ∧ Hid (SAt w w.heap.size (.int .u16 (a : Int)) (.int .u16 (b : Int)) w'))) (by kernel_rfl) (sp_of (HB.out.next (Below.refl _ _).drew)) (fun hH => ?_)
    refine wpAnyH_take (i := 0) (oi := ⟨some 20, _, _, _, _, _⟩) (v := ?v101) rfl (by kernel_rfl) (by kernel_rfl) (by kernel_rfl) (fun _ _ _ h => h) (Or.inl ⟨rfl, ?c101⟩) hH ?r101
    case c101 => (intro w' _; go_simp; (try with_reducible rfl))
    try simp only [Act.put, List.setIfInBounds_toArray, List.set_cons_zero, List.set_cons_succ]
    refine wpAnyH_take (i := 1) (oi := ⟨some 21, _, _, _, _, _⟩) (v := ?v102) rfl (by kernel_rfl) (by kernel_rfl) (by kernel_rfl) (fun _ _ _ h => h) (Or.inl ⟨rfl, ?c102⟩) hH ?r102
    case c102 => (intro w' hS; (try dsimp only at hS); go_simp; (try with_reducible rfl))
    try simp only [Act.put, List.setIfInBounds_toArray, List.set_cons_zero, List.set_cons_succ]
    refine wpAnyH_take (i := 2) (oi := ⟨some 22, _, _, _, _, _⟩) (v := ?v103) rfl (by kernel_rfl) (by kernel_rfl) (by kernel_rfl) (fun _ _ _ h => h) (Or.inl ⟨rfl, ?c103⟩) hH ?r103
    case c103 => (intro w' _; go_simp; (try with_reducible rfl))
    try simp only [Act.put, List.setIfInBounds_toArray, List.set_cons_zero, List.set_cons_succ]
    refine wpAnyH_take (i := 5) (oi := ⟨some 25, _, _, _, _, _⟩) (v := ?v104) rfl (by kernel_rfl) (by kernel_rfl) (by kernel_rfl) (fun _ _ _ h => h) (Or.inl ⟨rfl, ?c104⟩) hH ?r104
    case c104 => (intro w' _; go_simp; (try with_reducible rfl))
    try simp only [Act.put, List.setIfInBounds_toArray, List.set_cons_zero, List.set_cons_succ]
    refine wpAnyH_take (i := 6) (oi := ⟨some 26, _, _, _, _, _⟩) (v := ?v105) rfl (by kernel_rfl) (by kernel_rfl) (by kernel_rfl) (fun _ _ _ h => h) (Or.inl ⟨rfl, ?c105⟩) hH ?r105
    case c105 => (intro w' hS; (try dsimp only at hS); go_simp; (try with_reducible rfl))
    try simp only [Act.put, List.setIfInBounds_toArray, List.set_cons_zero, List.set_cons_succ]
    refine wpAnyH_take (i := 7) (oi := ⟨some 27, _, _, _, _, _⟩) (v := ?v106) rfl (by kernel_rfl) (by kernel_rfl) (by kernel_rfl) (fun _ _ _ h => h) (Or.inl ⟨rfl, ?c106⟩) hH ?r106
    case c106 => (intro w' _; go_simp; (try with_reducible rfl))
    try simp only [Act.put, List.setIfInBounds_toArray, List.set_cons_zero, List.set_cons_succ]
    refine wpAnyH_ready (rs := [3]) (by kernel_rfl) (by simp) (AllReadyH.cons rfl (fun K hK => ?_) (AllReadyH.nil))
    go_simp
    go_at_call 55
    refine (HI.out _).mono ?_
    rintro e w6 ⟨rfl, hb6⟩
    refine hK.out _ _ (sp_of (hH.2.2.out.next hb6)) (fun hH => ?_)
    clear hK K
    clear hb6
    try simp only [Act.put, List.setIfInBounds_toArray, List.set_cons_zero, List.set_cons_succ]
    refine wpAnyH_take (i := 4) (oi := ⟨some 24, _, _, _, _, _⟩) (v := ?v107) rfl (by kernel_rfl) (by kernel_rfl) (by kernel_rfl) (fun _ _ _ h => h) (Or.inl ⟨rfl, ?c107⟩) hH ?r107
    case c107 => (intro w' _; go_simp; (try with_reducible rfl))
    try simp only [Act.put, List.setIfInBounds_toArray, List.set_cons_zero, List.set_cons_succ]
    refine wpAnyH_ready (rs := [8]) (by kernel_rfl) (by simp) (AllReadyH.cons rfl (fun K hK => ?_) (AllReadyH.nil))
    go_simp
    go_at_call 55
    refine (HJ.out _).mono ?_
    rintro e w7 ⟨rfl, hb7⟩
    refine hK.out _ _ (sp_of (hH.2.2.out.next hb7)) (fun hH => ?_)
    clear hK K
    clear hb7
    try simp only [Act.put, List.setIfInBounds_toArray, List.set_cons_zero, List.set_cons_succ]
    refine wpAnyH_take (i := 9) (oi := ⟨some 29, _, _, _, _, _⟩) (v := ?v108) rfl (by kernel_rfl) (by kernel_rfl) (by kernel_rfl) (fun _ _ _ h => h) (Or.inl ⟨rfl, ?c108⟩) hH ?r108
    case c108 => (intro w' _; go_simp; (try with_reducible rfl))
    try simp only [Act.put, List.setIfInBounds_toArray, List.set_cons_zero, List.set_cons_succ]
    refine wpAnyH_take (i := 10) (oi := ⟨some 2, _, _, _, _, _⟩) (v := ?v109) rfl (by kernel_rfl) (by kernel_rfl) (by kernel_rfl) (fun _ _ _ h => h) (Or.inl ⟨rfl, ?c109⟩) hH ?r109
    case c109 => (intro w' _; go_simp; (try with_reducible rfl))
    try simp only [Act.put, List.setIfInBounds_toArray, List.set_cons_zero, List.set_cons_succ]
    refine wpAnyH_done (by kernel_rfl) ?_ _
    have HB2 := Lib.hid hH.2.2.out.bel
    clear hH
    go_wp2_with fail
    go_ret
    exact ⟨ret_str (by rw [HS.out, HZ1.out, HZ2.out]), HB2.out⟩

theorem refSpan_any (a b : Nat) (ha : a < 65536) (hb : b < 65536) (w : World) :
    Calls Tryz.prog 39 #[.agg #[.int .u16 (a : Int), .int .u16 (b : Int)]] w fun e w' => e = .returned (.string ⟨(spanS a b).toArray⟩) ∧ Below w.heap.size w w' := by
  by_cases h1 : a = 0 ∧ b = 65535
  · obtain ⟨rfl, rfl⟩ := h1; exact span_any0 w
  · by_cases h2 : a = b
    · subst h2; exact span_any1 a ha w
    · exact span_any2 a b ha hb h1 h2 w

theorem lr_of {w W : World} {r : R} (h : RAt w w.heap.size r W) : W.cell? ⟨w.heap.size, 1, none⟩ = some (.int .u8 (r.pr : Int)) ∧ W.cell? ⟨w.heap.size, 6, none⟩ = some (.int .u16 (r.sl : Int)) ∧ W.cell? ⟨w.heap.size, 7, none⟩ = some (.int .u16 (r.sh : Int)) ∧ W.cell? ⟨w.heap.size, 8, none⟩ = some (.int .u16 (r.dl : Int)) ∧ W.cell? ⟨w.heap.size, 9, none⟩ = some (.int .u16 (r.dh : Int)) ∧ Hid (RAt w w.heap.size r W) :=
  ⟨h.c1, h.c6, h.c7, h.c8, h.c9, h⟩
theorem line_is (r : R) : lineR r = (verdL r.acc ++ [32]) ++ wordS r.pr ++ [32] ++ netL r.sa r.sb ++ [32] ++ spanS r.sl r.sh ++ [32] ++ netL r.da r.db ++ [32] ++ spanS r.dl r.dh := by
  unfold RulM.lineR RulM.wordsR
  simp [AdrM.join]
set_option maxRecDepth 100000 in
set_option maxHeartbeats 2000000 in
theorem line_true (r : R) (ho : r.Ok) (hg : goodR r = true) (w : World) (ha : r.acc = true) :
    Calls Tryz.prog 19 #[.agg #[.bool r.acc, .int .u8 (r.pr : Int), .int .u32 (r.sa : Int), .int .i64 r.sb, .int .u32 (r.da : Int), .int .i64 r.db, .int .u16 (r.sl : Int), .int .u16 (r.sh : Int), .int .u16 (r.dl : Int), .int .u16 (r.dh : Int)]] w fun e w' => e = .returned (.string ⟨(lineR r).toArray⟩) ∧ Below w.heap.size w w' := by
  obtain ⟨hk, h1, h2, h3, h4⟩ := (goodR_iff r).1 hg
  obtain ⟨hb1, hb2⟩ := RulM.good_bits hg
  have HWD := Lib.hid (fun W => word_any r.pr (r.pr : Int) rfl W)
  have HN1 := Lib.hid (fun W => Ad.refShow_any r.sa r.sb ho.sa W)
  rw [show_good h1] at HN1
  have HN2 := Lib.hid (fun W => Ad.refShow_any r.da r.db ho.da W)
  rw [show_good h2] at HN2
  have HS1 := Lib.hid (fun W => refSpan_any r.sl r.sh ho.sl ho.sh W)
  have HS2 := Lib.hid (fun W => refSpan_any r.dl r.dh ho.dl ho.dh W)
  have K : RAt w w.heap.size r (w.alloc (.cells #[.bool true, .int .u8 (r.pr : Int), .int .u32 (r.sa : Int), .int .i64 r.sb, .int .u32 (r.da : Int), .int .i64 r.db, .int .u16 (r.sl : Int), .int .u16 (r.sh : Int), .int .u16 (r.dl : Int), .int .u16 (r.dh : Int)] 38)) := by
    have := RAt.box w r
    unfold cR at this
    rw [ha] at this
    exact this
  have hline := line_is r
  rw [ha, show verdL true ++ [32] = [97, 99, 99, 101, 112, 116, 32] from rfl] at hline
  have l2 := RulM.word_len r.pr
  have l3 := RulM.net_len ho.sa (n := r.sb) (by omega)
  have l4 := RulM.span_len ho.sl ho.sh
  have l5 := RulM.net_len ho.da (n := r.db) (by omega)
  generalize hLR : lineR r = LR at *
  generalize wordS r.pr = d2 at *
  generalize netL r.sa r.sb = d3 at *
  generalize spanS r.sl r.sh = d4 at *
  generalize netL r.da r.db = d5 at *
  generalize spanS r.dl r.dh = d6 at *
  have l6 : d6.length ≤ 100 := by have := RulM.line_len ho hg; rw [hLR, hline] at this; simp at this; omega
  obtain ⟨z1, hz1⟩ : ∃ z, [97, 99, 99, 101, 112, 116, 32] ++ d2 = z := ⟨_, rfl⟩
  obtain ⟨z2, hz2⟩ : ∃ z, z1 ++ [32] = z := ⟨_, rfl⟩
  obtain ⟨z3, hz3⟩ : ∃ z, z2 ++ d3 = z := ⟨_, rfl⟩
  obtain ⟨z4, hz4⟩ : ∃ z, z3 ++ [32] = z := ⟨_, rfl⟩
  obtain ⟨z5, hz5⟩ : ∃ z, z4 ++ d4 = z := ⟨_, rfl⟩
  obtain ⟨z6, hz6⟩ : ∃ z, z5 ++ [32] = z := ⟨_, rfl⟩
  obtain ⟨z7, hz7⟩ : ∃ z, z6 ++ d5 = z := ⟨_, rfl⟩
  obtain ⟨z8, hz8⟩ : ∃ z, z7 ++ [32] = z := ⟨_, rfl⟩
  obtain ⟨z9, hz9⟩ : ∃ z, z8 ++ d6 = z := ⟨_, rfl⟩
  have m1 : z1.length ≤ 20 := by rw [← hz1]; simp; omega
  have m2 : z2.length ≤ 30 := by rw [← hz2]; simp; omega
  have m3 : z3.length ≤ 60 := by rw [← hz3]; simp; omega
  have m4 : z4.length ≤ 70 := by rw [← hz4]; simp; omega
  have m5 : z5.length ≤ 90 := by rw [← hz5]; simp; omega
  have m6 : z6.length ≤ 100 := by rw [← hz6]; simp; omega
  have m7 : z7.length ≤ 200 := by rw [← hz7]; simp; omega
  have m8 : z8.length ≤ 300 := by rw [← hz8]; simp; omega
  have hA1 := fun W => Ad.add_textE (P := Tryz.prog) [97, 99, 99, 101, 112, 116, 32] d2 z1 hz1 (by simp) (by omega) W
  have hA2 := fun W => Ad.add_textE (P := Tryz.prog) z1 [32] z2 hz2 (by omega) (by simp) W
  have hA3 := fun W => Ad.add_textE (P := Tryz.prog) z2 d3 z3 hz3 (by omega) (by omega) W
  have hA4 := fun W => Ad.add_textE (P := Tryz.prog) z3 [32] z4 hz4 (by omega) (by simp) W
  have hA5 := fun W => Ad.add_textE (P := Tryz.prog) z4 d4 z5 hz5 (by omega) (by omega) W
  have hA6 := fun W => Ad.add_textE (P := Tryz.prog) z5 [32] z6 hz6 (by omega) (by simp) W
  have hA7 := fun W => Ad.add_textE (P := Tryz.prog) z6 d5 z7 hz7 (by omega) (by omega) W
  have hA8 := fun W => Ad.add_textE (P := Tryz.prog) z7 [32] z8 hz8 (by omega) (by simp) W
  have hA9 := fun W => Ad.add_textE (P := Tryz.prog) z8 d6 z9 hz9 (by omega) (by omega) W
  have HZZ : Hid (LR = z9) := by show _ = _; rw [hline, ← hz9, ← hz8, ← hz7, ← hz6, ← hz5, ← hz4, ← hz3, ← hz2, ← hz1]
  clear hg hk h1 h2 h3 h4 hb1 hb2 ho hline hLR l2 l3 l4 l5 l6 hz1 hz2 hz3 hz4 hz5 hz6 hz7 hz8 hz9 m1 m2 m3 m4 m5 m6 m7 m8
  have HK0 := Lib.hid K
  have d0 := K.c0
  rw [ha] at d0
  have c2 := K.c2
  have c3 := K.c3
  clear K
  go_enter Tryz.func19, Tryz.ntmps19
  go_wp2_with fail
  go_at_call 38
  refine (HN1.out _).mono ?_
  rintro e w1 ⟨rfl, hb⟩
  have HK1 := Lib.hid (HK0.out.next hb)
  have c4 := HK1.out.c4
  have c5 := HK1.out.c5
  clear hb d0 c2 c3
  go_wp2_with fail
  go_at_call 38
  refine (HN2.out _).mono ?_
  rintro e w2 ⟨rfl, hb⟩
  have HK2 := Lib.hid (HK1.out.next hb)
  clear hb c4 c5 ha
  go_wp2_with fail
  refine wp_region_held_drew (S := (fun w' => w'.cell? ⟨w.heap.size, 1, none⟩ = some (.int .u8 (r.pr : Int)) ∧ w'.cell? ⟨w.heap.size, 6, none⟩ = some (.int .u16 (r.sl : Int)) ∧ w'.cell? ⟨w.heap.size, 7, none⟩ = some (.int .u16 (r.sh : Int)) ∧ w'.cell? ⟨w.heap.size, 8, none⟩ = some (.int .u16 (r.dl : Int)) ∧ w'.cell? ⟨w.heap.size, 9, none⟩ = some (.int .u16 (r.dh : Int)) ∧ Hid (RAt w w.heap.size r w'))) (by kernel_rfl) (lr_of (HK2.out.next (Below.refl _ _).drew)) (fun hH => ?_)
  refine wpAnyH_take (i := 0) (oi := ⟨some 22, _, _, _, _, _⟩) (v := ?v1) rfl (by kernel_rfl) (by kernel_rfl) (by kernel_rfl) (fun _ _ _ h => h) (Or.inl ⟨rfl, ?c1⟩) hH ?r1
  case c1 => (intro w' _; go_simp; (try with_reducible rfl))
  try simp only [Act.put, List.setIfInBounds_toArray, List.set_cons_zero, List.set_cons_succ]
  refine wpAnyH_take (i := 1) (oi := ⟨some 23, _, _, _, _, _⟩) (v := ?v2) rfl (by kernel_rfl) (by kernel_rfl) (by kernel_rfl) (fun _ _ _ h => h) (Or.inl ⟨rfl, ?c2⟩) hH ?r2
  case c2 => (intro w' _; go_simp; (try with_reducible rfl))
  try simp only [Act.put, List.setIfInBounds_toArray, List.set_cons_zero, List.set_cons_succ]
  refine wpAnyH_take (i := 2) (oi := ⟨some 24, _, _, _, _, _⟩) (v := ?v3) rfl (by kernel_rfl) (by kernel_rfl) (by kernel_rfl) (fun _ _ _ h => h) (Or.inl ⟨rfl, ?c3⟩) hH ?r3
  case c3 => (intro w' hS; (try dsimp only at hS); go_simp; (try with_reducible rfl))
  try simp only [Act.put, List.setIfInBounds_toArray, List.set_cons_zero, List.set_cons_succ]
  refine wpAnyH_take (i := 6) (oi := ⟨some 28, _, _, _, _, _⟩) (v := ?v4) rfl (by kernel_rfl) (by kernel_rfl) (by kernel_rfl) (fun _ _ _ h => h) (Or.inl ⟨rfl, ?c4⟩) hH ?r4
  case c4 => (intro w' _; go_simp; (try with_reducible rfl))
  try simp only [Act.put, List.setIfInBounds_toArray, List.set_cons_zero, List.set_cons_succ]
  refine wpAnyH_take (i := 9) (oi := ⟨some 31, _, _, _, _, _⟩) (v := ?v5) rfl (by kernel_rfl) (by kernel_rfl) (by kernel_rfl) (fun _ _ _ h => h) (Or.inl ⟨rfl, ?c5⟩) hH ?r5
  case c5 => (intro w' _; go_simp; (try with_reducible rfl))
  try simp only [Act.put, List.setIfInBounds_toArray, List.set_cons_zero, List.set_cons_succ]
  refine wpAnyH_take (i := 10) (oi := ⟨some 32, _, _, _, _, _⟩) (v := ?v6) rfl (by kernel_rfl) (by kernel_rfl) (by kernel_rfl) (fun _ _ _ h => h) (Or.inl ⟨rfl, ?c6⟩) hH ?r6
  case c6 => (intro w' hS; (try dsimp only at hS); go_simp; (try with_reducible rfl))
  try simp only [Act.put, List.setIfInBounds_toArray, List.set_cons_zero, List.set_cons_succ]
  refine wpAnyH_take (i := 14) (oi := ⟨some 36, _, _, _, _, _⟩) (v := ?v7) rfl (by kernel_rfl) (by kernel_rfl) (by kernel_rfl) (fun _ _ _ h => h) (Or.inl ⟨rfl, ?c7⟩) hH ?r7
  case c7 => (intro w' _; go_simp; (try with_reducible rfl))
  try simp only [Act.put, List.setIfInBounds_toArray, List.set_cons_zero, List.set_cons_succ]
  refine wpAnyH_take (i := 17) (oi := ⟨some 39, _, _, _, _, _⟩) (v := ?v8) rfl (by kernel_rfl) (by kernel_rfl) (by kernel_rfl) (fun _ _ _ h => h) (Or.inl ⟨rfl, ?c8⟩) hH ?r8
  case c8 => (intro w' _; go_simp; (try with_reducible rfl))
  try simp only [Act.put, List.setIfInBounds_toArray, List.set_cons_zero, List.set_cons_succ]
  refine wpAnyH_take (i := 18) (oi := ⟨some 40, _, _, _, _, _⟩) (v := ?v9) rfl (by kernel_rfl) (by kernel_rfl) (by kernel_rfl) (fun _ _ _ h => h) (Or.inl ⟨rfl, ?c9⟩) hH ?r9
  case c9 => (intro w' hS; (try dsimp only at hS); go_simp; (try with_reducible rfl))
  try simp only [Act.put, List.setIfInBounds_toArray, List.set_cons_zero, List.set_cons_succ]
  refine wpAnyH_ready (rs := [3]) (by kernel_rfl) (by simp) (AllReadyH.cons rfl (fun K hK => ?_) (AllReadyH.nil))
  go_simp
  go_at_call 17
  refine (HWD.out _).mono ?_
  rintro e w6 ⟨rfl, rfl⟩
  refine hK.out _ _ (hH) (fun hH => ?_)
  clear hK K
  try simp only [Act.put, List.setIfInBounds_toArray, List.set_cons_zero, List.set_cons_succ]
  refine wpAnyH_take (i := 4) (oi := ⟨some 26, _, _, _, _, _⟩) (v := ?v10) rfl (by kernel_rfl) (by kernel_rfl) (by kernel_rfl) (fun _ _ _ h => h) (Or.inl ⟨rfl, ?c10⟩) hH ?r10
  case c10 => (intro w' _; go_simp; (try with_reducible rfl))
  try simp only [Act.put, List.setIfInBounds_toArray, List.set_cons_zero, List.set_cons_succ]
  refine wpAnyH_take (i := 5) (oi := ⟨some 27, _, _, _, _, _⟩) (v := ?v11) rfl (by kernel_rfl) (by kernel_rfl) (by kernel_rfl) (fun _ _ _ h => h) (Or.inl ⟨rfl, ?c11⟩) hH ?r11
  case c11 => (intro w' _; go_simp; (try with_reducible rfl))
  try simp only [Act.put, List.setIfInBounds_toArray, List.set_cons_zero, List.set_cons_succ]
  refine wpAnyH_take (i := 7) (oi := ⟨some 29, _, _, _, _, _⟩) (v := ?v12) rfl (by kernel_rfl) (by kernel_rfl) (by kernel_rfl) (fun _ _ _ h => h) (Or.inl ⟨rfl, ?c12⟩) hH ?r12
  case c12 => (intro w' _; go_simp; (try with_reducible rfl))
  try simp only [Act.put, List.setIfInBounds_toArray, List.set_cons_zero, List.set_cons_succ]
  refine wpAnyH_take (i := 8) (oi := ⟨some 30, _, _, _, _, _⟩) (v := ?v13) rfl (by kernel_rfl) (by kernel_rfl) (by kernel_rfl) (fun _ _ _ h => h) (Or.inl ⟨rfl, ?c13⟩) hH ?r13
  case c13 => (intro w' _; go_simp; (try with_reducible rfl))
  try simp only [Act.put, List.setIfInBounds_toArray, List.set_cons_zero, List.set_cons_succ]
  refine wpAnyH_ready (rs := [11]) (by kernel_rfl) (by simp) (AllReadyH.cons rfl (fun K hK => ?_) (AllReadyH.nil))
  go_simp
  go_at_call 39
  refine (HS1.out _).mono ?_
  rintro e w7 ⟨rfl, hb7⟩
  refine hK.out _ _ (lr_of (hH.2.2.2.2.2.out.next hb7)) (fun hH => ?_)
  clear hK K
  clear hb7
  try simp only [Act.put, List.setIfInBounds_toArray, List.set_cons_zero, List.set_cons_succ]
  refine wpAnyH_take (i := 12) (oi := ⟨some 34, _, _, _, _, _⟩) (v := ?v14) rfl (by kernel_rfl) (by kernel_rfl) (by kernel_rfl) (fun _ _ _ h => h) (Or.inl ⟨rfl, ?c14⟩) hH ?r14
  case c14 => (intro w' _; go_simp; (try with_reducible rfl))
  try simp only [Act.put, List.setIfInBounds_toArray, List.set_cons_zero, List.set_cons_succ]
  refine wpAnyH_take (i := 13) (oi := ⟨some 35, _, _, _, _, _⟩) (v := ?v15) rfl (by kernel_rfl) (by kernel_rfl) (by kernel_rfl) (fun _ _ _ h => h) (Or.inl ⟨rfl, ?c15⟩) hH ?r15
  case c15 => (intro w' _; go_simp; (try with_reducible rfl))
  try simp only [Act.put, List.setIfInBounds_toArray, List.set_cons_zero, List.set_cons_succ]
  refine wpAnyH_take (i := 15) (oi := ⟨some 37, _, _, _, _, _⟩) (v := ?v16) rfl (by kernel_rfl) (by kernel_rfl) (by kernel_rfl) (fun _ _ _ h => h) (Or.inl ⟨rfl, ?c16⟩) hH ?r16
  case c16 => (intro w' _; go_simp; (try with_reducible rfl))
  try simp only [Act.put, List.setIfInBounds_toArray, List.set_cons_zero, List.set_cons_succ]
  refine wpAnyH_take (i := 16) (oi := ⟨some 38, _, _, _, _, _⟩) (v := ?v17) rfl (by kernel_rfl) (by kernel_rfl) (by kernel_rfl) (fun _ _ _ h => h) (Or.inl ⟨rfl, ?c17⟩) hH ?r17
  case c17 => (intro w' _; go_simp; (try with_reducible rfl))
  try simp only [Act.put, List.setIfInBounds_toArray, List.set_cons_zero, List.set_cons_succ]
  refine wpAnyH_ready (rs := [19]) (by kernel_rfl) (by simp) (AllReadyH.cons rfl (fun K hK => ?_) (AllReadyH.nil))
  go_simp
  go_at_call 39
  refine (HS2.out _).mono ?_
  rintro e w8 ⟨rfl, hb8⟩
  refine hK.out _ _ (lr_of (hH.2.2.2.2.2.out.next hb8)) (fun hH => ?_)
  clear hK K
  clear hb8
  try simp only [Act.put, List.setIfInBounds_toArray, List.set_cons_zero, List.set_cons_succ]
  refine wpAnyH_take (i := 20) (oi := ⟨some 42, _, _, _, _, _⟩) (v := ?v18) rfl (by kernel_rfl) (by kernel_rfl) (by kernel_rfl) (fun _ _ _ h => h) (Or.inl ⟨rfl, ?c18⟩) hH ?r18
  case c18 => (intro w' _; go_simp; (try with_reducible rfl))
  try simp only [Act.put, List.setIfInBounds_toArray, List.set_cons_zero, List.set_cons_succ]
  refine wpAnyH_take (i := 21) (oi := ⟨some 2, _, _, _, _, _⟩) (v := ?v19) rfl (by kernel_rfl) (by kernel_rfl) (by kernel_rfl) (fun _ _ _ h => h) (Or.inl ⟨rfl, ?c19⟩) hH ?r19
  case c19 => (intro w' _; go_simp; (try with_reducible rfl))
  try simp only [Act.put, List.setIfInBounds_toArray, List.set_cons_zero, List.set_cons_succ]
  refine wpAnyH_done (by kernel_rfl) ?_ _
  have HB2 := Lib.hid hH.2.2.2.2.2.out.bel
  clear hH
  go_wp2_with fail
  go_ret
  exact ⟨ret_str (by rw [HZZ.out]), HB2.out⟩

set_option maxRecDepth 100000 in
set_option maxHeartbeats 2000000 in
theorem line_false (r : R) (ho : r.Ok) (hg : goodR r = true) (w : World) (ha : r.acc = false) :
    Calls Tryz.prog 19 #[.agg #[.bool r.acc, .int .u8 (r.pr : Int), .int .u32 (r.sa : Int), .int .i64 r.sb, .int .u32 (r.da : Int), .int .i64 r.db, .int .u16 (r.sl : Int), .int .u16 (r.sh : Int), .int .u16 (r.dl : Int), .int .u16 (r.dh : Int)]] w fun e w' => e = .returned (.string ⟨(lineR r).toArray⟩) ∧ Below w.heap.size w w' := by
  obtain ⟨hk, h1, h2, h3, h4⟩ := (goodR_iff r).1 hg
  obtain ⟨hb1, hb2⟩ := RulM.good_bits hg
  have HWD := Lib.hid (fun W => word_any r.pr (r.pr : Int) rfl W)
  have HN1 := Lib.hid (fun W => Ad.refShow_any r.sa r.sb ho.sa W)
  rw [show_good h1] at HN1
  have HN2 := Lib.hid (fun W => Ad.refShow_any r.da r.db ho.da W)
  rw [show_good h2] at HN2
  have HS1 := Lib.hid (fun W => refSpan_any r.sl r.sh ho.sl ho.sh W)
  have HS2 := Lib.hid (fun W => refSpan_any r.dl r.dh ho.dl ho.dh W)
  have K : RAt w w.heap.size r (w.alloc (.cells #[.bool false, .int .u8 (r.pr : Int), .int .u32 (r.sa : Int), .int .i64 r.sb, .int .u32 (r.da : Int), .int .i64 r.db, .int .u16 (r.sl : Int), .int .u16 (r.sh : Int), .int .u16 (r.dl : Int), .int .u16 (r.dh : Int)] 38)) := by
    have := RAt.box w r
    unfold cR at this
    rw [ha] at this
    exact this
  have hline := line_is r
  rw [ha, show verdL false ++ [32] = [100, 114, 111, 112, 32] from rfl] at hline
  have l2 := RulM.word_len r.pr
  have l3 := RulM.net_len ho.sa (n := r.sb) (by omega)
  have l4 := RulM.span_len ho.sl ho.sh
  have l5 := RulM.net_len ho.da (n := r.db) (by omega)
  generalize hLR : lineR r = LR at *
  generalize wordS r.pr = d2 at *
  generalize netL r.sa r.sb = d3 at *
  generalize spanS r.sl r.sh = d4 at *
  generalize netL r.da r.db = d5 at *
  generalize spanS r.dl r.dh = d6 at *
  have l6 : d6.length ≤ 100 := by have := RulM.line_len ho hg; rw [hLR, hline] at this; simp at this; omega
  obtain ⟨z1, hz1⟩ : ∃ z, [100, 114, 111, 112, 32] ++ d2 = z := ⟨_, rfl⟩
  obtain ⟨z2, hz2⟩ : ∃ z, z1 ++ [32] = z := ⟨_, rfl⟩
  obtain ⟨z3, hz3⟩ : ∃ z, z2 ++ d3 = z := ⟨_, rfl⟩
  obtain ⟨z4, hz4⟩ : ∃ z, z3 ++ [32] = z := ⟨_, rfl⟩
  obtain ⟨z5, hz5⟩ : ∃ z, z4 ++ d4 = z := ⟨_, rfl⟩
  obtain ⟨z6, hz6⟩ : ∃ z, z5 ++ [32] = z := ⟨_, rfl⟩
  obtain ⟨z7, hz7⟩ : ∃ z, z6 ++ d5 = z := ⟨_, rfl⟩
  obtain ⟨z8, hz8⟩ : ∃ z, z7 ++ [32] = z := ⟨_, rfl⟩
  obtain ⟨z9, hz9⟩ : ∃ z, z8 ++ d6 = z := ⟨_, rfl⟩
  have m1 : z1.length ≤ 20 := by rw [← hz1]; simp; omega
  have m2 : z2.length ≤ 30 := by rw [← hz2]; simp; omega
  have m3 : z3.length ≤ 60 := by rw [← hz3]; simp; omega
  have m4 : z4.length ≤ 70 := by rw [← hz4]; simp; omega
  have m5 : z5.length ≤ 90 := by rw [← hz5]; simp; omega
  have m6 : z6.length ≤ 100 := by rw [← hz6]; simp; omega
  have m7 : z7.length ≤ 200 := by rw [← hz7]; simp; omega
  have m8 : z8.length ≤ 300 := by rw [← hz8]; simp; omega
  have hA1 := fun W => Ad.add_textE (P := Tryz.prog) [100, 114, 111, 112, 32] d2 z1 hz1 (by simp) (by omega) W
  have hA2 := fun W => Ad.add_textE (P := Tryz.prog) z1 [32] z2 hz2 (by omega) (by simp) W
  have hA3 := fun W => Ad.add_textE (P := Tryz.prog) z2 d3 z3 hz3 (by omega) (by omega) W
  have hA4 := fun W => Ad.add_textE (P := Tryz.prog) z3 [32] z4 hz4 (by omega) (by simp) W
  have hA5 := fun W => Ad.add_textE (P := Tryz.prog) z4 d4 z5 hz5 (by omega) (by omega) W
  have hA6 := fun W => Ad.add_textE (P := Tryz.prog) z5 [32] z6 hz6 (by omega) (by simp) W
  have hA7 := fun W => Ad.add_textE (P := Tryz.prog) z6 d5 z7 hz7 (by omega) (by omega) W
  have hA8 := fun W => Ad.add_textE (P := Tryz.prog) z7 [32] z8 hz8 (by omega) (by simp) W
  have hA9 := fun W => Ad.add_textE (P := Tryz.prog) z8 d6 z9 hz9 (by omega) (by omega) W
  have HZZ : Hid (LR = z9) := by show _ = _; rw [hline, ← hz9, ← hz8, ← hz7, ← hz6, ← hz5, ← hz4, ← hz3, ← hz2, ← hz1]
  clear hg hk h1 h2 h3 h4 hb1 hb2 ho hline hLR l2 l3 l4 l5 l6 hz1 hz2 hz3 hz4 hz5 hz6 hz7 hz8 hz9 m1 m2 m3 m4 m5 m6 m7 m8
  have HK0 := Lib.hid K
  have d0 := K.c0
  rw [ha] at d0
  have c2 := K.c2
  have c3 := K.c3
  clear K
  go_enter Tryz.func19, Tryz.ntmps19
  go_wp2_with fail
  go_at_call 38
  refine (HN1.out _).mono ?_
  rintro e w1 ⟨rfl, hb⟩
  have HK1 := Lib.hid (HK0.out.next hb)
  have c4 := HK1.out.c4
  have c5 := HK1.out.c5
  clear hb d0 c2 c3
  go_wp2_with fail
  go_at_call 38
  refine (HN2.out _).mono ?_
  rintro e w2 ⟨rfl, hb⟩
  have HK2 := Lib.hid (HK1.out.next hb)
  clear hb c4 c5 ha
  go_wp2_with fail
  refine wp_region_held_drew (S := (fun w' => w'.cell? ⟨w.heap.size, 1, none⟩ = some (.int .u8 (r.pr : Int)) ∧ w'.cell? ⟨w.heap.size, 6, none⟩ = some (.int .u16 (r.sl : Int)) ∧ w'.cell? ⟨w.heap.size, 7, none⟩ = some (.int .u16 (r.sh : Int)) ∧ w'.cell? ⟨w.heap.size, 8, none⟩ = some (.int .u16 (r.dl : Int)) ∧ w'.cell? ⟨w.heap.size, 9, none⟩ = some (.int .u16 (r.dh : Int)) ∧ Hid (RAt w w.heap.size r w'))) (by kernel_rfl) (lr_of (HK2.out.next (Below.refl _ _).drew)) (fun hH => ?_)
  refine wpAnyH_take (i := 0) (oi := ⟨some 22, _, _, _, _, _⟩) (v := ?v1) rfl (by kernel_rfl) (by kernel_rfl) (by kernel_rfl) (fun _ _ _ h => h) (Or.inl ⟨rfl, ?c1⟩) hH ?r1
  case c1 => (intro w' _; go_simp; (try with_reducible rfl))
  try simp only [Act.put, List.setIfInBounds_toArray, List.set_cons_zero, List.set_cons_succ]
  refine wpAnyH_take (i := 1) (oi := ⟨some 23, _, _, _, _, _⟩) (v := ?v2) rfl (by kernel_rfl) (by kernel_rfl) (by kernel_rfl) (fun _ _ _ h => h) (Or.inl ⟨rfl, ?c2⟩) hH ?r2
  case c2 => (intro w' _; go_simp; (try with_reducible rfl))
  try simp only [Act.put, List.setIfInBounds_toArray, List.set_cons_zero, List.set_cons_succ]
  refine wpAnyH_take (i := 2) (oi := ⟨some 24, _, _, _, _, _⟩) (v := ?v3) rfl (by kernel_rfl) (by kernel_rfl) (by kernel_rfl) (fun _ _ _ h => h) (Or.inl ⟨rfl, ?c3⟩) hH ?r3
  case c3 => (intro w' hS; (try dsimp only at hS); go_simp; (try with_reducible rfl))
  try simp only [Act.put, List.setIfInBounds_toArray, List.set_cons_zero, List.set_cons_succ]
  refine wpAnyH_take (i := 6) (oi := ⟨some 28, _, _, _, _, _⟩) (v := ?v4) rfl (by kernel_rfl) (by kernel_rfl) (by kernel_rfl) (fun _ _ _ h => h) (Or.inl ⟨rfl, ?c4⟩) hH ?r4
  case c4 => (intro w' _; go_simp; (try with_reducible rfl))
  try simp only [Act.put, List.setIfInBounds_toArray, List.set_cons_zero, List.set_cons_succ]
  refine wpAnyH_take (i := 9) (oi := ⟨some 31, _, _, _, _, _⟩) (v := ?v5) rfl (by kernel_rfl) (by kernel_rfl) (by kernel_rfl) (fun _ _ _ h => h) (Or.inl ⟨rfl, ?c5⟩) hH ?r5
  case c5 => (intro w' _; go_simp; (try with_reducible rfl))
  try simp only [Act.put, List.setIfInBounds_toArray, List.set_cons_zero, List.set_cons_succ]
  refine wpAnyH_take (i := 10) (oi := ⟨some 32, _, _, _, _, _⟩) (v := ?v6) rfl (by kernel_rfl) (by kernel_rfl) (by kernel_rfl) (fun _ _ _ h => h) (Or.inl ⟨rfl, ?c6⟩) hH ?r6
  case c6 => (intro w' hS; (try dsimp only at hS); go_simp; (try with_reducible rfl))
  try simp only [Act.put, List.setIfInBounds_toArray, List.set_cons_zero, List.set_cons_succ]
  refine wpAnyH_take (i := 14) (oi := ⟨some 36, _, _, _, _, _⟩) (v := ?v7) rfl (by kernel_rfl) (by kernel_rfl) (by kernel_rfl) (fun _ _ _ h => h) (Or.inl ⟨rfl, ?c7⟩) hH ?r7
  case c7 => (intro w' _; go_simp; (try with_reducible rfl))
  try simp only [Act.put, List.setIfInBounds_toArray, List.set_cons_zero, List.set_cons_succ]
  refine wpAnyH_take (i := 17) (oi := ⟨some 39, _, _, _, _, _⟩) (v := ?v8) rfl (by kernel_rfl) (by kernel_rfl) (by kernel_rfl) (fun _ _ _ h => h) (Or.inl ⟨rfl, ?c8⟩) hH ?r8
  case c8 => (intro w' _; go_simp; (try with_reducible rfl))
  try simp only [Act.put, List.setIfInBounds_toArray, List.set_cons_zero, List.set_cons_succ]
  refine wpAnyH_take (i := 18) (oi := ⟨some 40, _, _, _, _, _⟩) (v := ?v9) rfl (by kernel_rfl) (by kernel_rfl) (by kernel_rfl) (fun _ _ _ h => h) (Or.inl ⟨rfl, ?c9⟩) hH ?r9
  case c9 => (intro w' hS; (try dsimp only at hS); go_simp; (try with_reducible rfl))
  try simp only [Act.put, List.setIfInBounds_toArray, List.set_cons_zero, List.set_cons_succ]
  refine wpAnyH_ready (rs := [3]) (by kernel_rfl) (by simp) (AllReadyH.cons rfl (fun K hK => ?_) (AllReadyH.nil))
  go_simp
  go_at_call 17
  refine (HWD.out _).mono ?_
  rintro e w6 ⟨rfl, rfl⟩
  refine hK.out _ _ (hH) (fun hH => ?_)
  clear hK K
  try simp only [Act.put, List.setIfInBounds_toArray, List.set_cons_zero, List.set_cons_succ]
  refine wpAnyH_take (i := 4) (oi := ⟨some 26, _, _, _, _, _⟩) (v := ?v10) rfl (by kernel_rfl) (by kernel_rfl) (by kernel_rfl) (fun _ _ _ h => h) (Or.inl ⟨rfl, ?c10⟩) hH ?r10
  case c10 => (intro w' _; go_simp; (try with_reducible rfl))
  try simp only [Act.put, List.setIfInBounds_toArray, List.set_cons_zero, List.set_cons_succ]
  refine wpAnyH_take (i := 5) (oi := ⟨some 27, _, _, _, _, _⟩) (v := ?v11) rfl (by kernel_rfl) (by kernel_rfl) (by kernel_rfl) (fun _ _ _ h => h) (Or.inl ⟨rfl, ?c11⟩) hH ?r11
  case c11 => (intro w' _; go_simp; (try with_reducible rfl))
  try simp only [Act.put, List.setIfInBounds_toArray, List.set_cons_zero, List.set_cons_succ]
  refine wpAnyH_take (i := 7) (oi := ⟨some 29, _, _, _, _, _⟩) (v := ?v12) rfl (by kernel_rfl) (by kernel_rfl) (by kernel_rfl) (fun _ _ _ h => h) (Or.inl ⟨rfl, ?c12⟩) hH ?r12
  case c12 => (intro w' _; go_simp; (try with_reducible rfl))
  try simp only [Act.put, List.setIfInBounds_toArray, List.set_cons_zero, List.set_cons_succ]
  refine wpAnyH_take (i := 8) (oi := ⟨some 30, _, _, _, _, _⟩) (v := ?v13) rfl (by kernel_rfl) (by kernel_rfl) (by kernel_rfl) (fun _ _ _ h => h) (Or.inl ⟨rfl, ?c13⟩) hH ?r13
  case c13 => (intro w' _; go_simp; (try with_reducible rfl))
  try simp only [Act.put, List.setIfInBounds_toArray, List.set_cons_zero, List.set_cons_succ]
  refine wpAnyH_ready (rs := [11]) (by kernel_rfl) (by simp) (AllReadyH.cons rfl (fun K hK => ?_) (AllReadyH.nil))
  go_simp
  go_at_call 39
  refine (HS1.out _).mono ?_
  rintro e w7 ⟨rfl, hb7⟩
  refine hK.out _ _ (lr_of (hH.2.2.2.2.2.out.next hb7)) (fun hH => ?_)
  clear hK K
  clear hb7
  try simp only [Act.put, List.setIfInBounds_toArray, List.set_cons_zero, List.set_cons_succ]
  refine wpAnyH_take (i := 12) (oi := ⟨some 34, _, _, _, _, _⟩) (v := ?v14) rfl (by kernel_rfl) (by kernel_rfl) (by kernel_rfl) (fun _ _ _ h => h) (Or.inl ⟨rfl, ?c14⟩) hH ?r14
  case c14 => (intro w' _; go_simp; (try with_reducible rfl))
  try simp only [Act.put, List.setIfInBounds_toArray, List.set_cons_zero, List.set_cons_succ]
  refine wpAnyH_take (i := 13) (oi := ⟨some 35, _, _, _, _, _⟩) (v := ?v15) rfl (by kernel_rfl) (by kernel_rfl) (by kernel_rfl) (fun _ _ _ h => h) (Or.inl ⟨rfl, ?c15⟩) hH ?r15
  case c15 => (intro w' _; go_simp; (try with_reducible rfl))
  try simp only [Act.put, List.setIfInBounds_toArray, List.set_cons_zero, List.set_cons_succ]
  refine wpAnyH_take (i := 15) (oi := ⟨some 37, _, _, _, _, _⟩) (v := ?v16) rfl (by kernel_rfl) (by kernel_rfl) (by kernel_rfl) (fun _ _ _ h => h) (Or.inl ⟨rfl, ?c16⟩) hH ?r16
  case c16 => (intro w' _; go_simp; (try with_reducible rfl))
  try simp only [Act.put, List.setIfInBounds_toArray, List.set_cons_zero, List.set_cons_succ]
  refine wpAnyH_take (i := 16) (oi := ⟨some 38, _, _, _, _, _⟩) (v := ?v17) rfl (by kernel_rfl) (by kernel_rfl) (by kernel_rfl) (fun _ _ _ h => h) (Or.inl ⟨rfl, ?c17⟩) hH ?r17
  case c17 => (intro w' _; go_simp; (try with_reducible rfl))
  try simp only [Act.put, List.setIfInBounds_toArray, List.set_cons_zero, List.set_cons_succ]
  refine wpAnyH_ready (rs := [19]) (by kernel_rfl) (by simp) (AllReadyH.cons rfl (fun K hK => ?_) (AllReadyH.nil))
  go_simp
  go_at_call 39
  refine (HS2.out _).mono ?_
  rintro e w8 ⟨rfl, hb8⟩
  refine hK.out _ _ (lr_of (hH.2.2.2.2.2.out.next hb8)) (fun hH => ?_)
  clear hK K
  clear hb8
  try simp only [Act.put, List.setIfInBounds_toArray, List.set_cons_zero, List.set_cons_succ]
  refine wpAnyH_take (i := 20) (oi := ⟨some 42, _, _, _, _, _⟩) (v := ?v18) rfl (by kernel_rfl) (by kernel_rfl) (by kernel_rfl) (fun _ _ _ h => h) (Or.inl ⟨rfl, ?c18⟩) hH ?r18
  case c18 => (intro w' _; go_simp; (try with_reducible rfl))
  try simp only [Act.put, List.setIfInBounds_toArray, List.set_cons_zero, List.set_cons_succ]
  refine wpAnyH_take (i := 21) (oi := ⟨some 2, _, _, _, _, _⟩) (v := ?v19) rfl (by kernel_rfl) (by kernel_rfl) (by kernel_rfl) (fun _ _ _ h => h) (Or.inl ⟨rfl, ?c19⟩) hH ?r19
  case c19 => (intro w' _; go_simp; (try with_reducible rfl))
  try simp only [Act.put, List.setIfInBounds_toArray, List.set_cons_zero, List.set_cons_succ]
  refine wpAnyH_done (by kernel_rfl) ?_ _
  have HB2 := Lib.hid hH.2.2.2.2.2.out.bel
  clear hH
  go_wp2_with fail
  go_ret
  exact ⟨ret_str (by rw [HZZ.out]), HB2.out⟩

theorem refLine_any (r : R) (ho : r.Ok) (hg : goodR r = true) (w : World) :
    Calls Tryz.prog 19 #[.agg #[.bool r.acc, .int .u8 (r.pr : Int), .int .u32 (r.sa : Int), .int .i64 r.sb, .int .u32 (r.da : Int), .int .i64 r.db, .int .u16 (r.sl : Int), .int .u16 (r.sh : Int), .int .u16 (r.dl : Int), .int .u16 (r.dh : Int)]] w fun e w' => e = .returned (.string ⟨(lineR r).toArray⟩) ∧ Below w.heap.size w w' := by
  cases ha : r.acc with
  | true => have := line_true r ho hg w ha; rw [ha] at this; exact this
  | false => have := line_false r ho hg w ha; rw [ha] at this; exact this

end Ru
end Go.Proofs.YtfbbkbjiaopnkaaGreatDoor
