/- Layer 14: the contracts of the reference's functions. -/
import Derived.Test.YtgddocpndogigaaDoorGatC
set_option linter.unusedVariables false
set_option linter.unusedSimpArgs false
namespace Go.Proofs.YtgddocpndogigaaDoor
open Go.ChangeShapes Go.WideShapes Go.ChangeAt Go.RowKit Go.Mtl
namespace Ga
open GatM (gI Fit)

theorem ref_word (c k v : Int) (h : Fit c k v) : IntKind.u64.wrap (IntKind.u64.wrap (IntKind.u64.wrap (IntKind.u64.wrap (IntKind.u64.wrap v * 4096) + IntKind.u64.wrap k) * 1099511627776) + IntKind.u64.wrap c) = gI c k v := by
  obtain ⟨_, _, _, _, _, _⟩ := h
  simp only [IntKind.wrap_u64]
  unfold gI
  omega
set_option maxHeartbeats 4000000 in
theorem refPack_any (c k v : Int) (V : Value) (hV : PV c k v V) (W : World) :
    Calls Tryd.prog 8 #[.agg (gtc v k c)] W fun e w' => e = .returned V ∧ Below W.heap.size W w' := by
  have HV := Lib.hid hV
  have HX := Lib.hid (Blk.box W (gtc v k c) 23)
  have HB := Lib.hid ((Below.refl _ W).alloc (Nat.le_refl _) (.cells (gtc v k c) 23))
  obtain ⟨x0, x1, x2⟩ := gt_cells HX.out
  clear hV
  by_cases h0 : c < 0
  · have d0 : decide (c < 0) = true := by simpa using h0
    have FN : Hid (V = .tuple #[.int .u64 0, .int .i64 1]) := HV.out.2 (fun h => by have := h.c0; omega)
    clear h0
    go_enter Tryd.func8, Tryd.ntmps8
    go_wp2_with fail
    go_ret2
    exact ⟨by rw [FN.out]; rfl, HB.out⟩
  have d0 : decide (c < 0) = false := by simpa using h0
  by_cases h1 : c ≥ 1099511627776
  · have d1 : decide (c ≥ 1099511627776) = true := by simpa using h1
    have FN : Hid (V = .tuple #[.int .u64 0, .int .i64 1]) := HV.out.2 (fun h => by have := h.c1; omega)
    clear h1
    go_enter Tryd.func8, Tryd.ntmps8
    go_wp2_with fail
    go_ret2
    exact ⟨by rw [FN.out]; rfl, HB.out⟩
  have d1 : decide (c ≥ 1099511627776) = false := by simpa using h1
  by_cases h2 : k < 0
  · have d2 : decide (k < 0) = true := by simpa using h2
    have FN : Hid (V = .tuple #[.int .u64 0, .int .i64 1]) := HV.out.2 (fun h => by have := h.k0; omega)
    clear h2
    go_enter Tryd.func8, Tryd.ntmps8
    go_wp2_with fail
    go_ret2
    exact ⟨by rw [FN.out]; rfl, HB.out⟩
  have d2 : decide (k < 0) = false := by simpa using h2
  by_cases h3 : k > 4095
  · have d3 : decide (k > 4095) = true := by simpa using h3
    have FN : Hid (V = .tuple #[.int .u64 0, .int .i64 1]) := HV.out.2 (fun h => by have := h.k1; omega)
    clear h3
    go_enter Tryd.func8, Tryd.ntmps8
    go_wp2_with fail
    go_ret2
    exact ⟨by rw [FN.out]; rfl, HB.out⟩
  have d3 : decide (k > 4095) = false := by simpa using h3
  by_cases h4 : v < 0
  · have d4 : decide (v < 0) = true := by simpa using h4
    have FN : Hid (V = .tuple #[.int .u64 0, .int .i64 1]) := HV.out.2 (fun h => by have := h.v0; omega)
    clear h4
    go_enter Tryd.func8, Tryd.ntmps8
    go_wp2_with fail
    go_ret2
    exact ⟨by rw [FN.out]; rfl, HB.out⟩
  have d4 : decide (v < 0) = false := by simpa using h4
  by_cases h5 : v > 4095
  · have d5 : decide (v > 4095) = true := by simpa using h5
    have FN : Hid (V = .tuple #[.int .u64 0, .int .i64 1]) := HV.out.2 (fun h => by have := h.v1; omega)
    clear h5
    go_enter Tryd.func8, Tryd.ntmps8
    go_wp2_with fail
    go_ret2
    exact ⟨by rw [FN.out]; rfl, HB.out⟩
  have d5 : decide (v > 4095) = false := by simpa using h5
  have hf : Fit c k v := ⟨by omega, by omega, by omega, by omega, by omega, by omega⟩
  have FN : Hid (V = .tuple #[.int .u64 (gI c k v), .int .i64 0]) := HV.out.1 hf
  have HW := Lib.hid (ref_word c k v hf)
  clear h0 h1 h2 h3 h4 h5 hf
  go_enter Tryd.func8, Tryd.ntmps8
  go_wp2_with fail
  go_ret2
  exact ⟨by rw [FN.out, ← HW.out]; rfl, HB.out⟩

theorem quo_v {c k v : Int} (h : Fit c k v) : gI c k v / 4503599627370496 = v := by obtain ⟨_, _, _, _, _, _⟩ := h; unfold gI; omega
theorem quo_k {c k v : Int} (h : Fit c k v) : gI c k v / 1099511627776 % 4096 = k := by obtain ⟨_, _, _, _, _, _⟩ := h; unfold gI; omega
theorem quo_c {c k v : Int} (h : Fit c k v) : gI c k v % 1099511627776 = c := by obtain ⟨_, _, _, _, _, _⟩ := h; unfold gI; omega
set_option maxHeartbeats 1000000 in
theorem refUnpack_any {c k v : Int} (h : Fit c k v) (W : World) :
    Calls Tryd.prog 11 #[.int .u64 (gI c k v)] W fun e w' => e = .returned (.agg (gtc v k c)) ∧ Below W.heap.size W w' := by
  have HX := Lib.hid (Blk.box W (gtc 0 0 0) 23)
  have HB := Lib.hid ((Below.refl _ W).alloc (Nat.le_refl _) (.cells (gtc 0 0 0) 23))
  have f0 := HX.out.frozen 0
  have f1 := HX.out.frozen 1
  have f2 := HX.out.frozen 2
  obtain ⟨y0, y1, y2⟩ := gt_cells HX.out
  have q0 := quo_c h
  have q1 := quo_k h
  have q2 := quo_v h
  have b0 := GatM.gI_lo h
  have b1 := GatM.gI_hi h
  obtain ⟨z0, z1, z2, z3, z4, z5⟩ := h
  go_enter Tryd.func11, Tryd.ntmps11
  go_wp2_with fail
  obtain ⟨r0, r1, r2⟩ := gt_cells (Blk.box W (gtc v k c) 23)
  exact bodyPost_ret (v := .agg (gtc v k c)) (by simp [results, Tryd.results11, go_sem, r0, r1, r2]) rfl ⟨rfl, (Below.refl _ W).alloc (Nat.le_refl _) _⟩

set_option maxHeartbeats 1000000 in
theorem with_any {c k v : Int} (h : Fit c k v) (W : World) :
    Calls Tryd.prog 23 #[.agg (gtc v k c)] W fun e w' => e = .returned (.int .u64 (gI c k v)) ∧ Below W.heap.size W w' := by
  have HX := Lib.hid (Blk.box W (gtc v k c) 23)
  have HB := Lib.hid ((Below.refl _ W).alloc (Nat.le_refl _) (.cells (gtc v k c) 23))
  obtain ⟨y0, y1, y2⟩ := gt_cells HX.out
  have HP := Lib.hid (refPack_any c k v _ ⟨fun _ => rfl, fun h' => absurd h h'⟩)
  clear h
  go_enter Tryd.func23, Tryd.ntmps23
  go_wp2_with fail
  go_at_call 8
  refine (HP.out _).mono ?_
  rintro e w' ⟨rfl, hb⟩
  go_wp2_with fail
  go_ret
  exact ⟨rfl, HB.out.trans (hb.mono (by simp))⟩

set_option maxHeartbeats 1000000 in
theorem refSwap_no {c k v : Int} (h : Fit c k v) (hm : v = 4095) (W : World) :
    Calls Tryd.prog 17 #[.int .u64 (gI c k v)] W fun e w' => e = .returned (.tuple #[.int .u64 (gI c k v), .bool false]) ∧ Below W.heap.size W w' := by
  have H := Lib.hid h
  have hd : (v == (4095 : Int)) = true := by rw [hm]; rfl
  clear hm h
  go_enter Tryd.func17, Tryd.ntmps17
  go_wp2_with fail
  go_at_call 11
  refine (refUnpack_any H.out _).mono ?_
  rintro e w1 ⟨rfl, hb⟩
  have HB := Lib.hid hb
  clear hb
  go_wp2_with fail
  go_ret2
  exact ⟨rfl, HB.out.alloc HB.out.size _⟩
set_option maxHeartbeats 1000000 in
theorem refSwap_yes {c k v : Int} (h : Fit c k v) (hm : v ≠ 4095) (W : World) :
    Calls Tryd.prog 17 #[.int .u64 (gI c k v)] W fun e w' => e = .returned (.tuple #[.int .u64 (gI c k (v + 1)), .bool true]) ∧ Below W.heap.size W w' := by
  have H := Lib.hid h
  have hd : (v == (4095 : Int)) = false := by simpa using hm
  obtain ⟨b0, b1, b2, b3, b4, b5⟩ := h
  have HN : Hid (Fit c k (v + 1)) := ⟨by omega, by omega, by omega, by omega, by omega, by omega⟩
  have HW := Lib.hid (with_any HN.out)
  have hw := IntWalk.wrap64_in (v + 1) (by omega)
  clear hm b0 b1 b2 b3 b4 b5
  go_enter Tryd.func17, Tryd.ntmps17
  go_wp2_with fail
  go_at_call 11
  refine (refUnpack_any H.out _).mono ?_
  rintro e w1 ⟨rfl, hb⟩
  have HB := Lib.hid hb
  clear hb
  go_wp2_with fail
  go_at_call 23
  refine (HW.out _).mono ?_
  rintro e w2 ⟨rfl, hb⟩
  have HB2 := Lib.hid (((Below.refl _ w1).alloc (Nat.le_refl _) _).trans (hb.mono (by simp)))
  clear hb
  go_wp2_with fail
  go_ret2
  exact ⟨rfl, HB.out.trans (HB2.out.mono HB.out.size)⟩
set_option maxHeartbeats 1000000 in
theorem refLeave_no {c k v : Int} (h : Fit c k v) (hm : k = 0) (W : World) :
    Calls Tryd.prog 15 #[.int .u64 (gI c k v)] W fun e w' => e = .returned (.tuple #[.int .u64 (gI c k v), .bool false]) ∧ Below W.heap.size W w' := by
  have H := Lib.hid h
  have hd : (k == (0 : Int)) = true := by rw [hm]; rfl
  clear hm h
  go_enter Tryd.func15, Tryd.ntmps15
  go_wp2_with fail
  go_at_call 11
  refine (refUnpack_any H.out _).mono ?_
  rintro e w1 ⟨rfl, hb⟩
  have HB := Lib.hid hb
  clear hb
  go_wp2_with fail
  go_ret2
  exact ⟨rfl, HB.out.alloc HB.out.size _⟩
set_option maxHeartbeats 1000000 in
theorem refLeave_yes {c k v : Int} (h : Fit c k v) (hm : k ≠ 0) (W : World) :
    Calls Tryd.prog 15 #[.int .u64 (gI c k v)] W fun e w' => e = .returned (.tuple #[.int .u64 (gI c (k - 1) v), .bool true]) ∧ Below W.heap.size W w' := by
  have H := Lib.hid h
  have hd : (k == (0 : Int)) = false := by simpa using hm
  obtain ⟨b0, b1, b2, b3, b4, b5⟩ := h
  have HN : Hid (Fit c (k - 1) v) := ⟨by omega, by omega, by omega, by omega, by omega, by omega⟩
  have HW := Lib.hid (with_any HN.out)
  have hw := IntWalk.wrap64_in (k - 1) (by omega)
  clear hm b0 b1 b2 b3 b4 b5
  go_enter Tryd.func15, Tryd.ntmps15
  go_wp2_with fail
  go_at_call 11
  refine (refUnpack_any H.out _).mono ?_
  rintro e w1 ⟨rfl, hb⟩
  have HB := Lib.hid hb
  clear hb
  go_wp2_with fail
  go_at_call 23
  refine (HW.out _).mono ?_
  rintro e w2 ⟨rfl, hb⟩
  have HB2 := Lib.hid (((Below.refl _ w1).alloc (Nat.le_refl _) _).trans (hb.mono (by simp)))
  clear hb
  go_wp2_with fail
  go_ret2
  exact ⟨rfl, HB.out.trans (HB2.out.mono HB.out.size)⟩
set_option maxHeartbeats 1000000 in
theorem refEnter_full {c k v l : Int} (h : Fit c k v) (hm : l ≤ k) (W : World) :
    Calls Tryd.prog 13 #[.int .u64 (gI c k v), .int .i64 l] W fun e w' => e = .returned (.tuple #[.int .u64 (gI c k v), .bool false]) ∧ Below W.heap.size W w' := by
  have H := Lib.hid h
  have hd : decide (k ≥ l) = true := by simpa using hm
  clear hd h
  go_enter Tryd.func13, Tryd.ntmps13
  go_wp2_with fail
  go_at_call 11
  refine (refUnpack_any H.out _).mono ?_
  rintro e w1 ⟨rfl, hb⟩
  have HB := Lib.hid hb
  clear hb
  go_wp2_with fail
  go_ret2
  exact ⟨rfl, HB.out.alloc HB.out.size _⟩
set_option maxHeartbeats 1000000 in
theorem refEnter_top {c k v l : Int} (h : Fit c k v) (hm : ¬ l ≤ k) (hk : k = 4095) (W : World) :
    Calls Tryd.prog 13 #[.int .u64 (gI c k v), .int .i64 l] W fun e w' => e = .returned (.tuple #[.int .u64 (gI c k v), .bool false]) ∧ Below W.heap.size W w' := by
  have H := Lib.hid h
  have hd : decide (k ≥ l) = false := by simpa using hm
  have hd2 : (k == (4095 : Int)) = true := by rw [hk]; rfl
  clear hk h
  go_enter Tryd.func13, Tryd.ntmps13
  go_wp2_with fail
  go_at_call 11
  refine (refUnpack_any H.out _).mono ?_
  rintro e w1 ⟨rfl, hb⟩
  have HB := Lib.hid hb
  clear hb
  go_wp2_with fail
  go_ret2
  exact ⟨rfl, HB.out.alloc HB.out.size _⟩
set_option maxHeartbeats 1000000 in
theorem refEnter_yes {c k v l : Int} (h : Fit c k v) (hm : ¬ l ≤ k) (hk : k ≠ 4095) (W : World) :
    Calls Tryd.prog 13 #[.int .u64 (gI c k v), .int .i64 l] W fun e w' => e = .returned (.tuple #[.int .u64 (gI c (k + 1) v), .bool true]) ∧ Below W.heap.size W w' := by
  have H := Lib.hid h
  have hd : decide (k ≥ l) = false := by simpa using hm
  have hd2 : (k == (4095 : Int)) = false := by simpa using hk
  obtain ⟨b0, b1, b2, b3, b4, b5⟩ := h
  have HN : Hid (Fit c (k + 1) v) := ⟨by omega, by omega, by omega, by omega, by omega, by omega⟩
  have HW := Lib.hid (with_any HN.out)
  have hw := IntWalk.wrap64_in (k + 1) (by omega)
  clear hk b0 b1 b2 b3 b4 b5
  go_enter Tryd.func13, Tryd.ntmps13
  go_wp2_with fail
  go_at_call 11
  refine (refUnpack_any H.out _).mono ?_
  rintro e w1 ⟨rfl, hb⟩
  have HB := Lib.hid hb
  clear hb
  go_wp2_with fail
  go_at_call 23
  refine (HW.out _).mono ?_
  rintro e w2 ⟨rfl, hb⟩
  have HB2 := Lib.hid (((Below.refl _ w1).alloc (Nat.le_refl _) _).trans (hb.mono (by simp)))
  clear hb
  go_wp2_with fail
  go_ret2
  exact ⟨rfl, HB.out.trans (HB2.out.mono HB.out.size)⟩
set_option maxHeartbeats 1000000 in
theorem refTick_no {c k v n : Int} (h : Fit c k v) (hn : n ≤ 0) (W : World) :
    Calls Tryd.prog 19 #[.int .u64 (gI c k v), .int .i64 n] W fun e w' => e = .returned (.int .u64 (gI (c) k v)) ∧ Below W.heap.size W w' := by
  have H := Lib.hid h
  have d0 : decide (n ≤ 0) = true := by simp; omega
  obtain ⟨b0, b1, b2, b3, b4, b5⟩ := h
  clear b0 b1 b2 b3 b4 b5
  go_enter Tryd.func19, Tryd.ntmps19
  go_wp2_with fail
  go_at_call 11
  refine (refUnpack_any H.out _).mono ?_
  rintro e w1 ⟨rfl, hb⟩
  have HB := Lib.hid hb
  clear hb
  go_wp2_with fail
  go_ret
  exact ⟨rfl, HB.out.alloc HB.out.size _⟩
set_option maxHeartbeats 1000000 in
theorem refTick_far {c k v n : Int} (h : Fit c k v) (hn : 1099511627776 < n) (W : World) :
    Calls Tryd.prog 19 #[.int .u64 (gI c k v), .int .i64 n] W fun e w' => e = .returned (.int .u64 (gI (1099511627775) k v)) ∧ Below W.heap.size W w' := by
  have H := Lib.hid h
  have d0 : decide (n ≤ 0) = false := by simp; omega
  have d1 : decide (n > 1099511627776) = true := by simp; omega
  obtain ⟨b0, b1, b2, b3, b4, b5⟩ := h
  have hw := IntWalk.wrap64_in (c + 1099511627776) (by omega)
  have d2 : decide (c + 1099511627776 ≥ 1099511627776) = true := by simp; omega
  have HN : Hid (Fit (1099511627775) k v) := ⟨by omega, by omega, by omega, by omega, by omega, by omega⟩
  have HW := Lib.hid (with_any HN.out)
  clear hn
  clear b0 b1 b2 b3 b4 b5
  go_enter Tryd.func19, Tryd.ntmps19
  go_wp2_with fail
  go_at_call 11
  refine (refUnpack_any H.out _).mono ?_
  rintro e w1 ⟨rfl, hb⟩
  have HB := Lib.hid hb
  clear hb
  go_wp2_with fail
  go_at_call 23
  refine (HW.out _).mono ?_
  rintro e w2 ⟨rfl, hb⟩
  have HB2 := Lib.hid (((Below.refl _ w1).alloc (Nat.le_refl _) _).trans (hb.mono (by simp)))
  clear hb
  go_wp2_with fail
  go_ret
  exact ⟨rfl, HB.out.trans (HB2.out.mono HB.out.size)⟩
set_option maxHeartbeats 1000000 in
theorem refTick_top {c k v n : Int} (h : Fit c k v) (hn : 0 < n) (hn1 : n ≤ 1099511627776) (hn2 : 1099511627775 < c + n) (W : World) :
    Calls Tryd.prog 19 #[.int .u64 (gI c k v), .int .i64 n] W fun e w' => e = .returned (.int .u64 (gI (1099511627775) k v)) ∧ Below W.heap.size W w' := by
  have H := Lib.hid h
  have d0 : decide (n ≤ 0) = false := by simp; omega
  have d1 : decide (n > 1099511627776) = false := by simp; omega
  have d2 : decide (c + n ≥ 1099511627776) = true := by simp; omega
  obtain ⟨b0, b1, b2, b3, b4, b5⟩ := h
  have hw := IntWalk.wrap64_in (c + n) (by omega)
  have HN : Hid (Fit (1099511627775) k v) := ⟨by omega, by omega, by omega, by omega, by omega, by omega⟩
  have HW := Lib.hid (with_any HN.out)
  clear hn hn1 hn2
  clear b0 b1 b2 b3 b4 b5
  go_enter Tryd.func19, Tryd.ntmps19
  go_wp2_with fail
  go_at_call 11
  refine (refUnpack_any H.out _).mono ?_
  rintro e w1 ⟨rfl, hb⟩
  have HB := Lib.hid hb
  clear hb
  go_wp2_with fail
  go_at_call 23
  refine (HW.out _).mono ?_
  rintro e w2 ⟨rfl, hb⟩
  have HB2 := Lib.hid (((Below.refl _ w1).alloc (Nat.le_refl _) _).trans (hb.mono (by simp)))
  clear hb
  go_wp2_with fail
  go_ret
  exact ⟨rfl, HB.out.trans (HB2.out.mono HB.out.size)⟩
set_option maxHeartbeats 1000000 in
theorem refTick_in {c k v n : Int} (h : Fit c k v) (hn : 0 < n) (hn2 : ¬ 1099511627775 < c + n) (W : World) :
    Calls Tryd.prog 19 #[.int .u64 (gI c k v), .int .i64 n] W fun e w' => e = .returned (.int .u64 (gI (c + n) k v)) ∧ Below W.heap.size W w' := by
  have H := Lib.hid h
  obtain ⟨b0, b1, b2, b3, b4, b5⟩ := h
  have d0 : decide (n ≤ 0) = false := by simp; omega
  have d1 : decide (n > 1099511627776) = false := by simp; omega
  have d2 : decide (c + n ≥ 1099511627776) = false := by simp; omega
  have hw := IntWalk.wrap64_in (c + n) (by omega)
  have HN : Hid (Fit (c + n) k v) := ⟨by omega, by omega, by omega, by omega, by omega, by omega⟩
  have HW := Lib.hid (with_any HN.out)
  clear hn hn2
  clear b0 b1 b2 b3 b4 b5
  go_enter Tryd.func19, Tryd.ntmps19
  go_wp2_with fail
  go_at_call 11
  refine (refUnpack_any H.out _).mono ?_
  rintro e w1 ⟨rfl, hb⟩
  have HB := Lib.hid hb
  clear hb
  go_wp2_with fail
  go_at_call 23
  refine (HW.out _).mono ?_
  rintro e w2 ⟨rfl, hb⟩
  have HB2 := Lib.hid (((Below.refl _ w1).alloc (Nat.le_refl _) _).trans (hb.mono (by simp)))
  clear hb
  go_wp2_with fail
  go_ret
  exact ⟨rfl, HB.out.trans (HB2.out.mono HB.out.size)⟩
theorem refTick_any {c k v n : Int} (h : Fit c k v) (W : World) :
    Calls Tryd.prog 19 #[.int .u64 (gI c k v), .int .i64 n] W fun e w' => e = .returned (.int .u64 (gI (later c n) k v)) ∧ Below W.heap.size W w' := by
  have b := h.c0
  unfold later
  by_cases h0 : n ≤ 0
  · rw [if_pos h0]; exact refTick_no h h0 W
  · rw [if_neg h0]
    by_cases h1 : 1099511627775 < c + n
    · rw [if_pos h1]
      by_cases h2 : n ≤ 1099511627776
      · exact refTick_top h (by omega) h2 h1 W
      · exact refTick_far h (by omega) W
    · rw [if_neg h1]; exact refTick_in h (by omega) h1 W
end Ga
end Go.Proofs.YtgddocpndogigaaDoor
