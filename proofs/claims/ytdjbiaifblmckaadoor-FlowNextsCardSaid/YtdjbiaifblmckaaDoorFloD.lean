/- Layer 15: the contracts of the reference's functions. -/
import Derived.Test.YtdjbiaifblmckaaDoorFloB
set_option linter.unusedVariables false
set_option linter.unusedSimpArgs false
namespace Go.Proofs.YtdjbiaifblmckaaDoor
open Go.ChangeShapes Go.WideShapes Go.ChangeAt Go.RowKit Go.Mtl
namespace Fl
open FloM (gI Fit)

theorem ref_word (c k v : Int) (h : Fit c k v) : IntKind.u64.wrap (IntKind.u64.wrap (IntKind.u64.wrap (IntKind.u64.wrap (IntKind.u64.wrap v * 1048576) + IntKind.u64.wrap k) * 1099511627776) + IntKind.u64.wrap c) = gI c k v := by
  obtain ⟨_, _, _, _, _, _⟩ := h
  simp only [IntKind.wrap_u64]
  unfold gI
  omega
set_option maxHeartbeats 4000000 in
theorem refPack_any (c k v : Int) (V : Value) (hV : PV c k v V) (W : World) :
    Calls Tryd.prog 8 #[.agg (gtc v k c)] W fun e w' => e = .returned V ∧ Below W.heap.size W w' := by
  have HV := Lib.hid hV
  have HX := Lib.hid (Blk.box W (gtc v k c) 23)
  have HB := Lib.hid ((Below.refl _ W).alloc (Nat.le_refl _) (.cells (gtc v k c) 23))
  obtain ⟨x0, x1, x2⟩ := gt_cells HX.out
  clear hV
  by_cases h0 : c < 0
  · have d0 : decide (c < 0) = true := by simpa using h0
    have FN : Hid (V = .tuple #[.int .u64 0, .int .i64 1]) := HV.out.2 (fun h => by have := h.c0; omega)
    clear h0
    go_enter Tryd.func8, Tryd.ntmps8
    go_wp2_with fail
    go_ret2
    exact ⟨by rw [FN.out]; rfl, HB.out⟩
  have d0 : decide (c < 0) = false := by simpa using h0
  by_cases h1 : c ≥ 1099511627776
  · have d1 : decide (c ≥ 1099511627776) = true := by simpa using h1
    have FN : Hid (V = .tuple #[.int .u64 0, .int .i64 1]) := HV.out.2 (fun h => by have := h.c1; omega)
    clear h1
    go_enter Tryd.func8, Tryd.ntmps8
    go_wp2_with fail
    go_ret2
    exact ⟨by rw [FN.out]; rfl, HB.out⟩
  have d1 : decide (c ≥ 1099511627776) = false := by simpa using h1
  by_cases h2 : k < 0
  · have d2 : decide (k < 0) = true := by simpa using h2
    have FN : Hid (V = .tuple #[.int .u64 0, .int .i64 1]) := HV.out.2 (fun h => by have := h.k0; omega)
    clear h2
    go_enter Tryd.func8, Tryd.ntmps8
    go_wp2_with fail
    go_ret2
    exact ⟨by rw [FN.out]; rfl, HB.out⟩
  have d2 : decide (k < 0) = false := by simpa using h2
  by_cases h3 : k ≥ 1048576
  · have d3 : decide (k ≥ 1048576) = true := by simpa using h3
    have FN : Hid (V = .tuple #[.int .u64 0, .int .i64 1]) := HV.out.2 (fun h => by have := h.k1; omega)
    clear h3
    go_enter Tryd.func8, Tryd.ntmps8
    go_wp2_with fail
    go_ret2
    exact ⟨by rw [FN.out]; rfl, HB.out⟩
  have d3 : decide (k ≥ 1048576) = false := by simpa using h3
  by_cases h4 : v < 0
  · have d4 : decide (v < 0) = true := by simpa using h4
    have FN : Hid (V = .tuple #[.int .u64 0, .int .i64 1]) := HV.out.2 (fun h => by have := h.v0; omega)
    clear h4
    go_enter Tryd.func8, Tryd.ntmps8
    go_wp2_with fail
    go_ret2
    exact ⟨by rw [FN.out]; rfl, HB.out⟩
  have d4 : decide (v < 0) = false := by simpa using h4
  by_cases h5 : v > 15
  · have d5 : decide (v > 15) = true := by simpa using h5
    have FN : Hid (V = .tuple #[.int .u64 0, .int .i64 1]) := HV.out.2 (fun h => by have := h.v1; omega)
    clear h5
    go_enter Tryd.func8, Tryd.ntmps8
    go_wp2_with fail
    go_ret2
    exact ⟨by rw [FN.out]; rfl, HB.out⟩
  have d5 : decide (v > 15) = false := by simpa using h5
  have hf : Fit c k v := ⟨by omega, by omega, by omega, by omega, by omega, by omega⟩
  have FN : Hid (V = .tuple #[.int .u64 (gI c k v), .int .i64 0]) := HV.out.1 hf
  have HW := Lib.hid (ref_word c k v hf)
  clear h0 h1 h2 h3 h4 h5 hf
  go_enter Tryd.func8, Tryd.ntmps8
  go_wp2_with fail
  go_ret2
  exact ⟨by rw [FN.out, ← HW.out]; rfl, HB.out⟩

theorem low4 (s : Int) : wrap64 ((IntKind.u64.wrap s).tmod 16) = s % 16 := by
  have h0 : 0 ≤ IntKind.u64.wrap s := by rw [IntKind.wrap_u64]; omega
  rw [Int.tmod_eq_emod_of_nonneg h0, IntKind.wrap_u64, IntWalk.wrap64_in _ (by omega)]
  omega
theorem quo_v {c k v : Int} (h : Fit c k v) : gI c k v / 1152921504606846976 = v := by obtain ⟨_, _, _, _, _, _⟩ := h; unfold gI; omega
theorem quo_k {c k v : Int} (h : Fit c k v) : gI c k v / 1099511627776 % 1048576 = k := by obtain ⟨_, _, _, _, _, _⟩ := h; unfold gI; omega
theorem quo_c {c k v : Int} (h : Fit c k v) : gI c k v % 1099511627776 = c := by obtain ⟨_, _, _, _, _, _⟩ := h; unfold gI; omega
set_option maxHeartbeats 1000000 in
theorem refUnpack_any {c k v : Int} (h : Fit c k v) (W : World) :
    Calls Tryd.prog 11 #[.int .u64 (gI c k v)] W fun e w' => e = .returned (.agg (gtc v k c)) ∧ Below W.heap.size W w' := by
  have HX := Lib.hid (Blk.box W (gtc 0 0 0) 23)
  have HB := Lib.hid ((Below.refl _ W).alloc (Nat.le_refl _) (.cells (gtc 0 0 0) 23))
  have f0 := HX.out.frozen 0
  have f1 := HX.out.frozen 1
  have f2 := HX.out.frozen 2
  obtain ⟨y0, y1, y2⟩ := gt_cells HX.out
  have q0 := quo_c h
  have q1 := quo_k h
  have q2 := quo_v h
  have b0 := FloM.gI_lo h
  have b1 := FloM.gI_hi h
  obtain ⟨z0, z1, z2, z3, z4, z5⟩ := h
  go_enter Tryd.func11, Tryd.ntmps11
  go_wp2_with fail
  obtain ⟨r0, r1, r2⟩ := gt_cells (Blk.box W (gtc v k c) 23)
  exact bodyPost_ret (v := .agg (gtc v k c)) (by simp [results, Tryd.results11, go_sem, r0, r1, r2]) rfl ⟨rfl, (Below.refl _ W).alloc (Nat.le_refl _) _⟩

set_option maxHeartbeats 1000000 in
theorem refPack_fit {c k v : Int} (h : Fit c k v) (W : World) :
    Calls Tryd.prog 8 #[.agg #[.int .i64 v, .int .i64 k, .int .i64 c]] W fun e w' => e = .returned (.tuple #[.int .u64 (gI c k v), .int .i64 0]) ∧ Below W.heap.size W w' :=
  refPack_any c k v _ ⟨fun _ => rfl, fun h' => absurd h h'⟩ W
set_option maxHeartbeats 2000000 in
theorem refNext_r_lo {c k v : Int} (h : Fit c k v) (s u : Int) (hk : k < 1048575) (hu : u < 0) (W : World) :
    Calls Tryd.prog 15 #[.int .u64 (gI c k v), .int .i64 s, .int .i64 u] W fun e w' => e = .returned (.int .u64 (gI (clip u) (up k) (s % 16))) ∧ Below W.heap.size W w' := by
  have H := Lib.hid h
  have hs := low4 s
  have d0 : decide (k < 1048575) = true := by simpa using hk
  have d1 : decide (u < 0) = true := by simp; omega
  have d2 : decide (u ≥ 1099511627776) = false := by simp; omega
  have hc : clip u = 0 := by unfold clip; split <;> (try split) <;> omega
  have hq : up k = k + 1 := by unfold up; split <;> omega
  have HN := Lib.hid (next_fit h s u)
  have HP := Lib.hid (refPack_fit HN.out)
  rw [hc, hq] at HP
  rw [hc, hq]
  have hw : IntKind.i64.wrap (k + 1) = k + 1 := by have := h.k0; have := h.k1; rw [IntKind.wrap_i64]; omega
  clear h hk hu hc hq HN
  go_enter Tryd.func15, Tryd.ntmps15
  go_wp2_with fail
  go_at_call 11
  refine (refUnpack_any H.out _).mono ?_
  rintro e w1 ⟨rfl, hb⟩
  have HB := Lib.hid hb
  clear hb
  go_wp2_with fail
  go_at_call 8
  refine (HP.out _).mono ?_
  rintro e w2 ⟨rfl, hb⟩
  have HB2 := Lib.hid (((Below.refl _ w1).alloc (Nat.le_refl _) _).trans (hb.mono (by simp)))
  clear hb
  go_wp2_with fail
  go_ret
  exact ⟨rfl, HB.out.trans (HB2.out.mono HB.out.size)⟩
set_option maxHeartbeats 2000000 in
theorem refNext_r_hi {c k v : Int} (h : Fit c k v) (s u : Int) (hk : k < 1048575) (hu : 1099511627776 ≤ u) (W : World) :
    Calls Tryd.prog 15 #[.int .u64 (gI c k v), .int .i64 s, .int .i64 u] W fun e w' => e = .returned (.int .u64 (gI (clip u) (up k) (s % 16))) ∧ Below W.heap.size W w' := by
  have H := Lib.hid h
  have hs := low4 s
  have d0 : decide (k < 1048575) = true := by simpa using hk
  have d1 : decide (u < 0) = false := by simp; omega
  have d2 : decide (u ≥ 1099511627776) = true := by simp; omega
  have hc : clip u = 1099511627775 := by unfold clip; split <;> (try split) <;> omega
  have hq : up k = k + 1 := by unfold up; split <;> omega
  have HN := Lib.hid (next_fit h s u)
  have HP := Lib.hid (refPack_fit HN.out)
  rw [hc, hq] at HP
  rw [hc, hq]
  have hw : IntKind.i64.wrap (k + 1) = k + 1 := by have := h.k0; have := h.k1; rw [IntKind.wrap_i64]; omega
  clear h hk hu hc hq HN
  go_enter Tryd.func15, Tryd.ntmps15
  go_wp2_with fail
  go_at_call 11
  refine (refUnpack_any H.out _).mono ?_
  rintro e w1 ⟨rfl, hb⟩
  have HB := Lib.hid hb
  clear hb
  go_wp2_with fail
  go_at_call 8
  refine (HP.out _).mono ?_
  rintro e w2 ⟨rfl, hb⟩
  have HB2 := Lib.hid (((Below.refl _ w1).alloc (Nat.le_refl _) _).trans (hb.mono (by simp)))
  clear hb
  go_wp2_with fail
  go_ret
  exact ⟨rfl, HB.out.trans (HB2.out.mono HB.out.size)⟩
set_option maxHeartbeats 2000000 in
theorem refNext_r_in {c k v : Int} (h : Fit c k v) (s u : Int) (hk : k < 1048575) (hu : 0 ≤ u ∧ u < 1099511627776) (W : World) :
    Calls Tryd.prog 15 #[.int .u64 (gI c k v), .int .i64 s, .int .i64 u] W fun e w' => e = .returned (.int .u64 (gI (clip u) (up k) (s % 16))) ∧ Below W.heap.size W w' := by
  have H := Lib.hid h
  have hs := low4 s
  have d0 : decide (k < 1048575) = true := by simpa using hk
  have d1 : decide (u < 0) = false := by simp; omega
  have d2 : decide (u ≥ 1099511627776) = false := by simp; omega
  have hc : clip u = u := by unfold clip; split <;> (try split) <;> omega
  have hq : up k = k + 1 := by unfold up; split <;> omega
  have HN := Lib.hid (next_fit h s u)
  have HP := Lib.hid (refPack_fit HN.out)
  rw [hc, hq] at HP
  rw [hc, hq]
  have hw : IntKind.i64.wrap (k + 1) = k + 1 := by have := h.k0; have := h.k1; rw [IntKind.wrap_i64]; omega
  clear h hk hu hc hq HN
  go_enter Tryd.func15, Tryd.ntmps15
  go_wp2_with fail
  go_at_call 11
  refine (refUnpack_any H.out _).mono ?_
  rintro e w1 ⟨rfl, hb⟩
  have HB := Lib.hid hb
  clear hb
  go_wp2_with fail
  go_at_call 8
  refine (HP.out _).mono ?_
  rintro e w2 ⟨rfl, hb⟩
  have HB2 := Lib.hid (((Below.refl _ w1).alloc (Nat.le_refl _) _).trans (hb.mono (by simp)))
  clear hb
  go_wp2_with fail
  go_ret
  exact ⟨rfl, HB.out.trans (HB2.out.mono HB.out.size)⟩
set_option maxHeartbeats 2000000 in
theorem refNext_t_lo {c k v : Int} (h : Fit c k v) (s u : Int) (hk : ¬ k < 1048575) (hu : u < 0) (W : World) :
    Calls Tryd.prog 15 #[.int .u64 (gI c k v), .int .i64 s, .int .i64 u] W fun e w' => e = .returned (.int .u64 (gI (clip u) (up k) (s % 16))) ∧ Below W.heap.size W w' := by
  have H := Lib.hid h
  have hs := low4 s
  have d0 : decide (k < 1048575) = false := by simpa using hk
  have d1 : decide (u < 0) = true := by simp; omega
  have d2 : decide (u ≥ 1099511627776) = false := by simp; omega
  have hc : clip u = 0 := by unfold clip; split <;> (try split) <;> omega
  have hq : up k = k := by have := h.k1; unfold up; split <;> omega
  have HN := Lib.hid (next_fit h s u)
  have HP := Lib.hid (refPack_fit HN.out)
  rw [hc, hq] at HP
  rw [hc, hq]
  have hw : IntKind.i64.wrap (k + 1) = k + 1 := by have := h.k0; have := h.k1; rw [IntKind.wrap_i64]; omega
  clear h hk hu hc hq HN
  go_enter Tryd.func15, Tryd.ntmps15
  go_wp2_with fail
  go_at_call 11
  refine (refUnpack_any H.out _).mono ?_
  rintro e w1 ⟨rfl, hb⟩
  have HB := Lib.hid hb
  clear hb
  go_wp2_with fail
  go_at_call 8
  refine (HP.out _).mono ?_
  rintro e w2 ⟨rfl, hb⟩
  have HB2 := Lib.hid (((Below.refl _ w1).alloc (Nat.le_refl _) _).trans (hb.mono (by simp)))
  clear hb
  go_wp2_with fail
  go_ret
  exact ⟨rfl, HB.out.trans (HB2.out.mono HB.out.size)⟩
set_option maxHeartbeats 2000000 in
theorem refNext_t_hi {c k v : Int} (h : Fit c k v) (s u : Int) (hk : ¬ k < 1048575) (hu : 1099511627776 ≤ u) (W : World) :
    Calls Tryd.prog 15 #[.int .u64 (gI c k v), .int .i64 s, .int .i64 u] W fun e w' => e = .returned (.int .u64 (gI (clip u) (up k) (s % 16))) ∧ Below W.heap.size W w' := by
  have H := Lib.hid h
  have hs := low4 s
  have d0 : decide (k < 1048575) = false := by simpa using hk
  have d1 : decide (u < 0) = false := by simp; omega
  have d2 : decide (u ≥ 1099511627776) = true := by simp; omega
  have hc : clip u = 1099511627775 := by unfold clip; split <;> (try split) <;> omega
  have hq : up k = k := by have := h.k1; unfold up; split <;> omega
  have HN := Lib.hid (next_fit h s u)
  have HP := Lib.hid (refPack_fit HN.out)
  rw [hc, hq] at HP
  rw [hc, hq]
  have hw : IntKind.i64.wrap (k + 1) = k + 1 := by have := h.k0; have := h.k1; rw [IntKind.wrap_i64]; omega
  clear h hk hu hc hq HN
  go_enter Tryd.func15, Tryd.ntmps15
  go_wp2_with fail
  go_at_call 11
  refine (refUnpack_any H.out _).mono ?_
  rintro e w1 ⟨rfl, hb⟩
  have HB := Lib.hid hb
  clear hb
  go_wp2_with fail
  go_at_call 8
  refine (HP.out _).mono ?_
  rintro e w2 ⟨rfl, hb⟩
  have HB2 := Lib.hid (((Below.refl _ w1).alloc (Nat.le_refl _) _).trans (hb.mono (by simp)))
  clear hb
  go_wp2_with fail
  go_ret
  exact ⟨rfl, HB.out.trans (HB2.out.mono HB.out.size)⟩
set_option maxHeartbeats 2000000 in
theorem refNext_t_in {c k v : Int} (h : Fit c k v) (s u : Int) (hk : ¬ k < 1048575) (hu : 0 ≤ u ∧ u < 1099511627776) (W : World) :
    Calls Tryd.prog 15 #[.int .u64 (gI c k v), .int .i64 s, .int .i64 u] W fun e w' => e = .returned (.int .u64 (gI (clip u) (up k) (s % 16))) ∧ Below W.heap.size W w' := by
  have H := Lib.hid h
  have hs := low4 s
  have d0 : decide (k < 1048575) = false := by simpa using hk
  have d1 : decide (u < 0) = false := by simp; omega
  have d2 : decide (u ≥ 1099511627776) = false := by simp; omega
  have hc : clip u = u := by unfold clip; split <;> (try split) <;> omega
  have hq : up k = k := by have := h.k1; unfold up; split <;> omega
  have HN := Lib.hid (next_fit h s u)
  have HP := Lib.hid (refPack_fit HN.out)
  rw [hc, hq] at HP
  rw [hc, hq]
  have hw : IntKind.i64.wrap (k + 1) = k + 1 := by have := h.k0; have := h.k1; rw [IntKind.wrap_i64]; omega
  clear h hk hu hc hq HN
  go_enter Tryd.func15, Tryd.ntmps15
  go_wp2_with fail
  go_at_call 11
  refine (refUnpack_any H.out _).mono ?_
  rintro e w1 ⟨rfl, hb⟩
  have HB := Lib.hid hb
  clear hb
  go_wp2_with fail
  go_at_call 8
  refine (HP.out _).mono ?_
  rintro e w2 ⟨rfl, hb⟩
  have HB2 := Lib.hid (((Below.refl _ w1).alloc (Nat.le_refl _) _).trans (hb.mono (by simp)))
  clear hb
  go_wp2_with fail
  go_ret
  exact ⟨rfl, HB.out.trans (HB2.out.mono HB.out.size)⟩
theorem refNext_any {c k v : Int} (h : Fit c k v) (s u : Int) (W : World) :
    Calls Tryd.prog 15 #[.int .u64 (gI c k v), .int .i64 s, .int .i64 u] W fun e w' => e = .returned (.int .u64 (gI (clip u) (up k) (s % 16))) ∧ Below W.heap.size W w' := by
  by_cases hk : k < 1048575
  · by_cases h0 : u < 0
    · exact refNext_r_lo h s u hk h0 W
    · by_cases h1 : 1099511627776 ≤ u
      · exact refNext_r_hi h s u hk h1 W
      · exact refNext_r_in h s u hk (by omega) W
  · by_cases h0 : u < 0
    · exact refNext_t_lo h s u hk h0 W
    · by_cases h1 : 1099511627776 ≤ u
      · exact refNext_t_hi h s u hk h1 W
      · exact refNext_t_in h s u hk (by omega) W

set_option maxHeartbeats 1000000 in
theorem refOver_any {c k v : Int} (h : Fit c k v) (t : Int) (W : World) :
    Calls Tryd.prog 13 #[.int .u64 (gI c k v), .int .i64 t] W fun e w' => e = .returned (.bool (overB c k v t)) ∧ Below W.heap.size W w' := by
  have H := Lib.hid h
  have hv : v.tmod 15 = v % 15 := Int.tmod_eq_emod_of_nonneg h.v0
  have hw : IntKind.i64.wrap (v % 15) = v % 15 := by rw [IntKind.wrap_i64]; omega
  have hm : v % 15 = 0 ↔ v = 0 ∨ v = 15 := by have := h.v0; have := h.v1; omega
  clear h
  by_cases h0 : v % 15 = 0
  · have d0 : (v % 15 == (0 : Int)) = true := by simpa using h0
    have hb : overB c k v t = true := by unfold overB; have := hm.1 h0; simp; omega
    clear hm h0
    rw [hb]
    clear hb
    go_enter Tryd.func13, Tryd.ntmps13
    go_wp2_with fail
    go_at_call 11
    refine (refUnpack_any H.out _).mono ?_
    rintro e w1 ⟨rfl, hb⟩
    have HB := Lib.hid (hb.alloc hb.size (.cells (gtc v k c) 23))
    obtain ⟨x0, x1, x2⟩ := gt_cells (Blk.box w1 (gtc v k c) 23)
    clear hb
    go_wp2_with fail
    go_ret
    exact ⟨rfl, HB.out⟩
  have d0 : (v % 15 == (0 : Int)) = false := by simpa using h0
  by_cases h1 : k = 1048575
  · have d1 : (k == (1048575 : Int)) = true := by simpa using h1
    have hb : overB c k v t = true := by unfold overB; simp; omega
    clear hm h0 h1
    rw [hb]
    clear hb
    go_enter Tryd.func13, Tryd.ntmps13
    go_wp2_with fail
    go_at_call 11
    refine (refUnpack_any H.out _).mono ?_
    rintro e w1 ⟨rfl, hb⟩
    have HB := Lib.hid (hb.alloc hb.size (.cells (gtc v k c) 23))
    obtain ⟨x0, x1, x2⟩ := gt_cells (Blk.box w1 (gtc v k c) 23)
    clear hb
    go_wp2_with fail
    go_ret
    exact ⟨rfl, HB.out⟩
  have d1 : (k == (1048575 : Int)) = false := by simpa using h1
  by_cases h2 : t ≥ c
  · have d2 : (decide (t ≥ c)) = true := by simpa using h2
    have hb : overB c k v t = true := by unfold overB; simp; omega
    clear hm h0 h1 h2
    rw [hb]
    clear hb
    go_enter Tryd.func13, Tryd.ntmps13
    go_wp2_with fail
    go_at_call 11
    refine (refUnpack_any H.out _).mono ?_
    rintro e w1 ⟨rfl, hb⟩
    have HB := Lib.hid (hb.alloc hb.size (.cells (gtc v k c) 23))
    obtain ⟨x0, x1, x2⟩ := gt_cells (Blk.box w1 (gtc v k c) 23)
    clear hb
    go_wp2_with fail
    go_ret
    exact ⟨rfl, HB.out⟩
  have d2 : (decide (t ≥ c)) = false := by simpa using h2
  have hb : overB c k v t = false := by unfold overB; have : ¬ (v = 0 ∨ v = 15) := fun h => h0 (hm.2 h); simp; omega
  clear hm h0 h1 h2
  rw [hb]
  clear hb
  go_enter Tryd.func13, Tryd.ntmps13
  go_wp2_with fail
  go_at_call 11
  refine (refUnpack_any H.out _).mono ?_
  rintro e w1 ⟨rfl, hb⟩
  have HB := Lib.hid (hb.alloc hb.size (.cells (gtc v k c) 23))
  obtain ⟨x0, x1, x2⟩ := gt_cells (Blk.box w1 (gtc v k c) 23)
  clear hb
  go_wp2_with fail
  go_ret
  exact ⟨rfl, HB.out⟩
end Fl
end Go.Proofs.YtdjbiaifblmckaaDoor
