/- Several texts of this proof in one file, each in its own namespace. -/
import Derived.Test.YtgcnhbjoalemlaaGreatDoorJ30
import Derived.Deep.RegionHeld
/- Layer 15: the contracts of flow.Dead, Next, Over. -/
set_option linter.unusedVariables false
set_option linter.unusedSimpArgs false
set_option maxRecDepth 100000
namespace Go.Proofs.YtgcnhbjoalemlaaGreatDoor
open Go.ChangeShapes Go.WideShapes Go.ChangeAt Go.RowKit Go.Mtl
namespace Fl
open FloM (gI Fit)

theorem quiet_below {P : Program} {f : FuncId} {args : Array Value} {w : World} {v : Value} (h : Calls P f args w fun e w' => e = .returned v ∧ ∃ n, w' = w.drewN n) : Calls P f args w fun e w' => e = .returned v ∧ Below w.heap.size w w' :=
  h.mono fun _ _ ⟨a, n, b⟩ => ⟨a, b ▸ (Below.refl _ w).drews n⟩
/-- A time, cut to what fits; a number of changes, one greater where it may be. -/
def clip (u : Int) : Int := if u < 0 then 0 else if 1099511627775 < u then 1099511627775 else u
def up (k : Int) : Int := if k < 1048575 then k + 1 else 1048575
theorem clip_fit (u : Int) : 0 ≤ clip u ∧ clip u < 1099511627776 := by unfold clip; split <;> (try split) <;> omega
theorem up_fit {k : Int} (h0 : 0 ≤ k) (h1 : k < 1048576) : 0 ≤ up k ∧ up k < 1048576 := by unfold up; split <;> omega
theorem next_fit {c k v : Int} (h : Fit c k v) (s u : Int) : Fit (clip u) (up k) (s % 16) := by
  have h1 := clip_fit u
  have h2 := up_fit h.k0 h.k1
  exact ⟨h1.1, h1.2, h2.1, h2.2, by omega, by omega⟩
/-- What Next keeps: the table; nothing is made. -/
def QW (W w : World) : Prop := Env w ∧ ∃ n, w = W.drewN n
theorem QW.next {W w w' : World} (H : QW W w) (hb : ∃ n, w' = w.drewN n) : QW W w' := by
  obtain ⟨he, n, rfl⟩ := H
  obtain ⟨m, rfl⟩ := hb
  exact ⟨he.drewN m, n + m, by rw [World.drewN_drewN]⟩
theorem QW.drew {W w : World} (H : QW W w) : QW W w.drew := ⟨H.1.drewN 1, H.2.elim fun n h => ⟨n + 1, by rw [h]; rfl⟩⟩
theorem QW.start {W : World} (he : Env W) : QW W W := ⟨he, 0, rfl⟩

set_option maxHeartbeats 4000000 in
theorem next_any {c k v : Int} (h : Fit c k v) (s u : Int) (W : World) (he : Env W) :
    Calls Tryz.prog 72 #[.int .u64 (gI c k v), .int .i64 s, .int .i64 u] W fun e w' => e = .returned (.int .u64 (gI (clip u) (up k) (s % 16))) ∧ ∃ n, w' = W.drewN n := by
  have H := Lib.hid h
  have H2 : Hid (Fit c k (s % 16)) := ⟨h.c0, h.c1, h.k0, h.k1, by omega, by omega⟩
  have HN := Lib.hid (next_fit h s u)
  have H3 : Hid (Fit c (up k) (s % 16)) := ⟨h.c0, h.c1, HN.out.k0, HN.out.k1, by omega, by omega⟩
  have HE := Lib.hid (QW.start he)
  have hk : 0 ≤ k ∧ k < 1048576 := ⟨h.k0, h.k1⟩
  have hw : wrap64 (k + 1) = k + 1 := IntWalk.wrap64_in _ (by omega)
  have hup : (if 1048575 < IntKind.i64.wrap (k + 1) then 1048575 else IntKind.i64.wrap (k + 1)) = up k := by
    rw [IntKind.wrap_i64]; unfold up; split <;> split <;> omega
  have hcl : (if 1099511627775 < (if u < 0 then 0 else u) then 1099511627775 else (if u < 0 then 0 else u)) = clip u := by unfold clip; split <;> split <;> (try split) <;> omega
  clear he h hw hk
  go_enter Tryz.func72, Tryz.ntmps72
  go_wp2_with fail
  go_at_call 105
  refine (put_v H.out _ HE.out.1).mono ?_
  rintro e w1 ⟨rfl, hb⟩
  have HE1 := Lib.hid (HE.out.next hb)
  clear hb
  go_wp2_with fail
  refine wp_region_held_drew (S := fun w' => QW W w') (by kernel_rfl) (HE1.out.drew) (fun hH => ?_)
  refine wpAnyH_take (i := 0) (oi := ⟨some 10, _, _, _, _, _⟩) (v := ?v1) rfl (by kernel_rfl) (by kernel_rfl) (by kernel_rfl) (fun _ _ _ h => h) (Or.inl ⟨rfl, ?c1⟩) hH ?r1
  case c1 => (intro w' _; go_simp; (try with_reducible rfl))
  try simp only [Act.put, List.setIfInBounds_toArray, List.set_cons_zero, List.set_cons_succ]
  refine wpAnyH_take (i := 1) (oi := ⟨some 11, _, _, _, _, _⟩) (v := ?v2) rfl (by kernel_rfl) (by kernel_rfl) (by kernel_rfl) (fun _ _ _ h => h) (Or.inl ⟨rfl, ?c2⟩) hH ?r2
  case c2 => (intro w' _; go_simp; (try with_reducible rfl))
  try simp only [Act.put, List.setIfInBounds_toArray, List.set_cons_zero, List.set_cons_succ]
  refine wpAnyH_take (i := 4) (oi := ⟨some 14, _, _, _, _, _⟩) (v := ?v3) rfl (by kernel_rfl) (by kernel_rfl) (by kernel_rfl) (fun _ _ _ h => h) (Or.inl ⟨rfl, ?c3⟩) hH ?r3
  case c3 => (intro w' _; go_simp; (try with_reducible rfl))
  try simp only [Act.put, List.setIfInBounds_toArray, List.set_cons_zero, List.set_cons_succ]
  refine wpAnyH_take (i := 5) (oi := ⟨some 15, _, _, _, _, _⟩) (v := ?v4) rfl (by kernel_rfl) (by kernel_rfl) (by kernel_rfl) (fun _ _ _ h => h) (Or.inl ⟨rfl, ?c4⟩) hH ?r4
  case c4 => (intro w' _; go_simp; (try with_reducible rfl))
  try simp only [Act.put, List.setIfInBounds_toArray, List.set_cons_zero, List.set_cons_succ]
  refine wpAnyH_take (i := 6) (oi := ⟨some 16, _, _, _, _, _⟩) (v := ?v5) rfl (by kernel_rfl) (by kernel_rfl) (by kernel_rfl) (fun _ _ _ h => h) (Or.inl ⟨rfl, ?c5⟩) hH ?r5
  case c5 => (intro w' hS; have x0 := hS.1.c5; go_simp; (try with_reducible rfl))
  try simp only [Act.put, List.setIfInBounds_toArray, List.set_cons_zero, List.set_cons_succ]
  refine wpAnyH_ready (rs := [2]) (by kernel_rfl) (by simp) (AllReadyH.cons rfl (fun K hK => ?_) (AllReadyH.nil))
  go_simp
  refine (get_k H2.out _ hH.1).mono ?_
  rintro e w8 ⟨rfl, hbp⟩
  refine hK.out _ _ (hH.next hbp) (fun hH => ?_)
  clear hK K
  clear hbp
  try simp only [Act.put, List.setIfInBounds_toArray, List.set_cons_zero, List.set_cons_succ]
  refine wpAnyH_take (i := 3) (oi := ⟨some 13, _, _, _, _, _⟩) (v := ?v6) rfl (by kernel_rfl) (by kernel_rfl) (by kernel_rfl) (fun _ _ _ h => h) (Or.inl ⟨rfl, ?c6⟩) hH ?r6
  case c6 => (intro w' _; go_simp; (try with_reducible rfl))
  try simp only [Act.put, List.setIfInBounds_toArray, List.set_cons_zero, List.set_cons_succ]
  refine wpAnyH_take (i := 7) (oi := ⟨some 17, _, _, _, _, _⟩) (v := ?v7) rfl (by kernel_rfl) (by kernel_rfl) (by kernel_rfl) (fun _ _ _ h => h) (Or.inl ⟨rfl, ?c7⟩) hH ?r7
  case c7 => (intro w' _; go_simp; (try with_reducible rfl))
  try simp only [Act.put, List.setIfInBounds_toArray, List.set_cons_zero, List.set_cons_succ]
  refine wpAnyH_ready (rs := [8]) (by kernel_rfl) (by simp) (AllReadyH.cons rfl (fun K hK => ?_) (AllReadyH.nil))
  go_simp
  refine (put_k H2.out HN.out.k0 HN.out.k1 _ hH.1).mono ?_
  rintro e w9 ⟨rfl, hbp⟩
  refine hK.out _ _ (hH.next hbp) (fun hH => ?_)
  clear hK K
  clear hbp
  try simp only [Act.put, List.setIfInBounds_toArray, List.set_cons_zero, List.set_cons_succ]
  refine wpAnyH_take (i := 9) (oi := ⟨some 0, _, _, _, _, _⟩) (v := ?v8) rfl (by kernel_rfl) (by kernel_rfl) (by kernel_rfl) (fun _ _ _ h => h) (Or.inl ⟨rfl, ?c8⟩) hH ?r8
  case c8 => (intro w' _; go_simp; (try with_reducible rfl))
  try simp only [Act.put, List.setIfInBounds_toArray, List.set_cons_zero, List.set_cons_succ]
  refine wpAnyH_done (by kernel_rfl) ?_ _
  have x1 := hH.1.c2
  go_wp2_with fail
  all_goals (
    go_at_call 105
    refine (put_c H3.out HN.out.c0 HN.out.c1 _ hH.1).mono ?_
    rintro e w10 ⟨rfl, hb⟩
    have HE2 := Lib.hid (hH.next hb)
    clear hb hH
    go_wp2_with fail
    go_ret
    exact ⟨rfl, HE2.out.2⟩)

/-- Whether a flow is over at the clock t. -/
def overB (c k v t : Int) : Bool := decide (v = 0 ∨ v = 15 ∨ c ≤ t ∨ k = 1048575)
set_option maxHeartbeats 1000000 in
theorem over_any {c k v : Int} (h : Fit c k v) (t : Int) (W : World) (he : Env W) :
    Calls Tryz.prog 54 #[.int .u64 (gI c k v), .int .i64 t] W fun e w' => e = .returned (.bool (overB c k v t)) ∧ Below W.heap.size W w' := by
  have H := Lib.hid h
  have HE := Lib.hid he
  clear he h
  by_cases h0 : v = 0
  · have d0 : (v == (0 : Int)) = true := by simpa using h0
    have hb : overB c k v t = true := by unfold overB; simp [h0]
    clear h0
    rw [hb]
    clear hb
    go_enter Tryz.func54, Tryz.ntmps54
    go_wp2_with fail
    go_at_call 34
    refine (unpack_any H.out _ HE.out).mono ?_
    rintro e w1 ⟨rfl, hb⟩
    have HB := Lib.hid (hb.alloc hb.size (.cells (gtc v k c) 50))
    obtain ⟨x0, x1, x2⟩ := gt_cells (Blk.box w1 (gtc v k c) 50)
    clear hb
    go_wp2_with fail
    go_ret
    exact ⟨rfl, HB.out⟩
  have d0 : (v == (0 : Int)) = false := by simpa using h0
  by_cases h1 : v = 15
  · have d1 : (v == (15 : Int)) = true := by simpa using h1
    have hb : overB c k v t = true := by unfold overB; simp [h1]
    clear h1
    rw [hb]
    clear hb
    go_enter Tryz.func54, Tryz.ntmps54
    go_wp2_with fail
    go_at_call 34
    refine (unpack_any H.out _ HE.out).mono ?_
    rintro e w1 ⟨rfl, hb⟩
    have HB := Lib.hid (hb.alloc hb.size (.cells (gtc v k c) 50))
    obtain ⟨x0, x1, x2⟩ := gt_cells (Blk.box w1 (gtc v k c) 50)
    clear hb
    go_wp2_with fail
    go_ret
    exact ⟨rfl, HB.out⟩
  have d1 : (v == (15 : Int)) = false := by simpa using h1
  by_cases h2 : c ≤ t
  · have d2 : (decide (c ≤ t)) = true := by simpa using h2
    have hb : overB c k v t = true := by unfold overB; simp [h2]
    clear h2
    rw [hb]
    clear hb
    go_enter Tryz.func54, Tryz.ntmps54
    go_wp2_with fail
    go_at_call 34
    refine (unpack_any H.out _ HE.out).mono ?_
    rintro e w1 ⟨rfl, hb⟩
    have HB := Lib.hid (hb.alloc hb.size (.cells (gtc v k c) 50))
    obtain ⟨x0, x1, x2⟩ := gt_cells (Blk.box w1 (gtc v k c) 50)
    clear hb
    go_wp2_with fail
    go_ret
    exact ⟨rfl, HB.out⟩
  have d2 : (decide (c ≤ t)) = false := by simpa using h2
  by_cases h3 : k = 1048575
  · have d3 : (k == (1048575 : Int)) = true := by simpa using h3
    have hb : overB c k v t = true := by unfold overB; simp [h3]
    clear h3
    rw [hb]
    clear hb
    go_enter Tryz.func54, Tryz.ntmps54
    go_wp2_with fail
    go_at_call 34
    refine (unpack_any H.out _ HE.out).mono ?_
    rintro e w1 ⟨rfl, hb⟩
    have HB := Lib.hid (hb.alloc hb.size (.cells (gtc v k c) 50))
    obtain ⟨x0, x1, x2⟩ := gt_cells (Blk.box w1 (gtc v k c) 50)
    clear hb
    go_wp2_with fail
    go_ret
    exact ⟨rfl, HB.out⟩
  have d3 : (k == (1048575 : Int)) = false := by simpa using h3
  have hb : overB c k v t = false := by unfold overB; simp [h0, h1, h2, h3]
  clear h0 h1 h2 h3
  rw [hb]
  clear hb
  go_enter Tryz.func54, Tryz.ntmps54
  go_wp2_with fail
  go_at_call 34
  refine (unpack_any H.out _ HE.out).mono ?_
  rintro e w1 ⟨rfl, hb⟩
  have HB := Lib.hid (hb.alloc hb.size (.cells (gtc v k c) 50))
  obtain ⟨x0, x1, x2⟩ := gt_cells (Blk.box w1 (gtc v k c) 50)
  clear hb
  go_wp2_with fail
  go_ret
  exact ⟨rfl, HB.out⟩
end Fl
end Go.Proofs.YtgcnhbjoalemlaaGreatDoor
/- Layer 15: the contracts of the reference's functions. -/
set_option linter.unusedVariables false
set_option linter.unusedSimpArgs false
set_option maxRecDepth 100000
namespace Go.Proofs.YtgcnhbjoalemlaaGreatDoor
open Go.ChangeShapes Go.WideShapes Go.ChangeAt Go.RowKit Go.Mtl
namespace Fl
open FloM (gI Fit)

theorem ref_word (c k v : Int) (h : Fit c k v) : IntKind.u64.wrap (IntKind.u64.wrap (IntKind.u64.wrap (IntKind.u64.wrap (IntKind.u64.wrap v * 1048576) + IntKind.u64.wrap k) * 1099511627776) + IntKind.u64.wrap c) = gI c k v := by
  obtain ⟨_, _, _, _, _, _⟩ := h
  simp only [IntKind.wrap_u64]
  unfold gI
  omega
set_option maxHeartbeats 4000000 in
theorem refPack_any (c k v : Int) (V : Value) (hV : PV c k v V) (W : World) :
    Calls Tryz.prog 94 #[.agg (gtc v k c)] W fun e w' => e = .returned V ∧ Below W.heap.size W w' := by
  have HV := Lib.hid hV
  have HX := Lib.hid (Blk.box W (gtc v k c) 50)
  have HB := Lib.hid ((Below.refl _ W).alloc (Nat.le_refl _) (.cells (gtc v k c) 50))
  obtain ⟨x0, x1, x2⟩ := gt_cells HX.out
  clear hV
  by_cases h0 : c < 0
  · have d0 : decide (c < 0) = true := by simpa using h0
    have FN : Hid (V = .tuple #[.int .u64 0, .int .i64 1]) := HV.out.2 (fun h => by have := h.c0; omega)
    clear h0
    go_enter Tryz.func94, Tryz.ntmps94
    go_wp2_with fail
    go_ret2
    exact ⟨by rw [FN.out]; rfl, HB.out⟩
  have d0 : decide (c < 0) = false := by simpa using h0
  by_cases h1 : c ≥ 1099511627776
  · have d1 : decide (c ≥ 1099511627776) = true := by simpa using h1
    have FN : Hid (V = .tuple #[.int .u64 0, .int .i64 1]) := HV.out.2 (fun h => by have := h.c1; omega)
    clear h1
    go_enter Tryz.func94, Tryz.ntmps94
    go_wp2_with fail
    go_ret2
    exact ⟨by rw [FN.out]; rfl, HB.out⟩
  have d1 : decide (c ≥ 1099511627776) = false := by simpa using h1
  by_cases h2 : k < 0
  · have d2 : decide (k < 0) = true := by simpa using h2
    have FN : Hid (V = .tuple #[.int .u64 0, .int .i64 1]) := HV.out.2 (fun h => by have := h.k0; omega)
    clear h2
    go_enter Tryz.func94, Tryz.ntmps94
    go_wp2_with fail
    go_ret2
    exact ⟨by rw [FN.out]; rfl, HB.out⟩
  have d2 : decide (k < 0) = false := by simpa using h2
  by_cases h3 : k ≥ 1048576
  · have d3 : decide (k ≥ 1048576) = true := by simpa using h3
    have FN : Hid (V = .tuple #[.int .u64 0, .int .i64 1]) := HV.out.2 (fun h => by have := h.k1; omega)
    clear h3
    go_enter Tryz.func94, Tryz.ntmps94
    go_wp2_with fail
    go_ret2
    exact ⟨by rw [FN.out]; rfl, HB.out⟩
  have d3 : decide (k ≥ 1048576) = false := by simpa using h3
  by_cases h4 : v < 0
  · have d4 : decide (v < 0) = true := by simpa using h4
    have FN : Hid (V = .tuple #[.int .u64 0, .int .i64 1]) := HV.out.2 (fun h => by have := h.v0; omega)
    clear h4
    go_enter Tryz.func94, Tryz.ntmps94
    go_wp2_with fail
    go_ret2
    exact ⟨by rw [FN.out]; rfl, HB.out⟩
  have d4 : decide (v < 0) = false := by simpa using h4
  by_cases h5 : v > 15
  · have d5 : decide (v > 15) = true := by simpa using h5
    have FN : Hid (V = .tuple #[.int .u64 0, .int .i64 1]) := HV.out.2 (fun h => by have := h.v1; omega)
    clear h5
    go_enter Tryz.func94, Tryz.ntmps94
    go_wp2_with fail
    go_ret2
    exact ⟨by rw [FN.out]; rfl, HB.out⟩
  have d5 : decide (v > 15) = false := by simpa using h5
  have hf : Fit c k v := ⟨by omega, by omega, by omega, by omega, by omega, by omega⟩
  have FN : Hid (V = .tuple #[.int .u64 (gI c k v), .int .i64 0]) := HV.out.1 hf
  have HW := Lib.hid (ref_word c k v hf)
  clear h0 h1 h2 h3 h4 h5 hf
  go_enter Tryz.func94, Tryz.ntmps94
  go_wp2_with fail
  go_ret2
  exact ⟨by rw [FN.out, ← HW.out]; rfl, HB.out⟩

theorem low4 (s : Int) : wrap64 ((IntKind.u64.wrap s).tmod 16) = s % 16 := by
  have h0 : 0 ≤ IntKind.u64.wrap s := by rw [IntKind.wrap_u64]; omega
  rw [Int.tmod_eq_emod_of_nonneg h0, IntKind.wrap_u64, IntWalk.wrap64_in _ (by omega)]
  omega
theorem quo_v {c k v : Int} (h : Fit c k v) : gI c k v / 1152921504606846976 = v := by obtain ⟨_, _, _, _, _, _⟩ := h; unfold gI; omega
theorem quo_k {c k v : Int} (h : Fit c k v) : gI c k v / 1099511627776 % 1048576 = k := by obtain ⟨_, _, _, _, _, _⟩ := h; unfold gI; omega
theorem quo_c {c k v : Int} (h : Fit c k v) : gI c k v % 1099511627776 = c := by obtain ⟨_, _, _, _, _, _⟩ := h; unfold gI; omega
set_option maxHeartbeats 1000000 in
theorem refUnpack_any {c k v : Int} (h : Fit c k v) (W : World) :
    Calls Tryz.prog 33 #[.int .u64 (gI c k v)] W fun e w' => e = .returned (.agg (gtc v k c)) ∧ Below W.heap.size W w' := by
  have HX := Lib.hid (Blk.box W (gtc 0 0 0) 50)
  have HB := Lib.hid ((Below.refl _ W).alloc (Nat.le_refl _) (.cells (gtc 0 0 0) 50))
  have f0 := HX.out.frozen 0
  have f1 := HX.out.frozen 1
  have f2 := HX.out.frozen 2
  obtain ⟨y0, y1, y2⟩ := gt_cells HX.out
  have q0 := quo_c h
  have q1 := quo_k h
  have q2 := quo_v h
  have b0 := FloM.gI_lo h
  have b1 := FloM.gI_hi h
  obtain ⟨z0, z1, z2, z3, z4, z5⟩ := h
  go_enter Tryz.func33, Tryz.ntmps33
  go_wp2_with fail
  obtain ⟨r0, r1, r2⟩ := gt_cells (Blk.box W (gtc v k c) 50)
  exact bodyPost_ret (v := .agg (gtc v k c)) (by simp [results, Tryz.results33, go_sem, r0, r1, r2]) rfl ⟨rfl, (Below.refl _ W).alloc (Nat.le_refl _) _⟩

set_option maxHeartbeats 1000000 in
theorem refPack_fit {c k v : Int} (h : Fit c k v) (W : World) :
    Calls Tryz.prog 94 #[.agg #[.int .i64 v, .int .i64 k, .int .i64 c]] W fun e w' => e = .returned (.tuple #[.int .u64 (gI c k v), .int .i64 0]) ∧ Below W.heap.size W w' :=
  refPack_any c k v _ ⟨fun _ => rfl, fun h' => absurd h h'⟩ W
set_option maxHeartbeats 2000000 in
theorem refNext_r_lo {c k v : Int} (h : Fit c k v) (s u : Int) (hk : k < 1048575) (hu : u < 0) (W : World) :
    Calls Tryz.prog 61 #[.int .u64 (gI c k v), .int .i64 s, .int .i64 u] W fun e w' => e = .returned (.int .u64 (gI (clip u) (up k) (s % 16))) ∧ Below W.heap.size W w' := by
  have H := Lib.hid h
  have hs := low4 s
  have d0 : decide (k < 1048575) = true := by simpa using hk
  have d1 : decide (u < 0) = true := by simp; omega
  have d2 : decide (u ≥ 1099511627776) = false := by simp; omega
  have hc : clip u = 0 := by unfold clip; split <;> (try split) <;> omega
  have hq : up k = k + 1 := by unfold up; split <;> omega
  have HN := Lib.hid (next_fit h s u)
  have HP := Lib.hid (refPack_fit HN.out)
  rw [hc, hq] at HP
  rw [hc, hq]
  have hw : IntKind.i64.wrap (k + 1) = k + 1 := by have := h.k0; have := h.k1; rw [IntKind.wrap_i64]; omega
  clear h hk hu hc hq HN
  go_enter Tryz.func61, Tryz.ntmps61
  go_wp2_with fail
  go_at_call 33
  refine (refUnpack_any H.out _).mono ?_
  rintro e w1 ⟨rfl, hb⟩
  have HB := Lib.hid hb
  clear hb
  go_wp2_with fail
  go_at_call 94
  refine (HP.out _).mono ?_
  rintro e w2 ⟨rfl, hb⟩
  have HB2 := Lib.hid (((Below.refl _ w1).alloc (Nat.le_refl _) _).trans (hb.mono (by simp)))
  clear hb
  go_wp2_with fail
  go_ret
  exact ⟨rfl, HB.out.trans (HB2.out.mono HB.out.size)⟩
set_option maxHeartbeats 2000000 in
theorem refNext_r_hi {c k v : Int} (h : Fit c k v) (s u : Int) (hk : k < 1048575) (hu : 1099511627776 ≤ u) (W : World) :
    Calls Tryz.prog 61 #[.int .u64 (gI c k v), .int .i64 s, .int .i64 u] W fun e w' => e = .returned (.int .u64 (gI (clip u) (up k) (s % 16))) ∧ Below W.heap.size W w' := by
  have H := Lib.hid h
  have hs := low4 s
  have d0 : decide (k < 1048575) = true := by simpa using hk
  have d1 : decide (u < 0) = false := by simp; omega
  have d2 : decide (u ≥ 1099511627776) = true := by simp; omega
  have hc : clip u = 1099511627775 := by unfold clip; split <;> (try split) <;> omega
  have hq : up k = k + 1 := by unfold up; split <;> omega
  have HN := Lib.hid (next_fit h s u)
  have HP := Lib.hid (refPack_fit HN.out)
  rw [hc, hq] at HP
  rw [hc, hq]
  have hw : IntKind.i64.wrap (k + 1) = k + 1 := by have := h.k0; have := h.k1; rw [IntKind.wrap_i64]; omega
  clear h hk hu hc hq HN
  go_enter Tryz.func61, Tryz.ntmps61
  go_wp2_with fail
  go_at_call 33
  refine (refUnpack_any H.out _).mono ?_
  rintro e w1 ⟨rfl, hb⟩
  have HB := Lib.hid hb
  clear hb
  go_wp2_with fail
  go_at_call 94
  refine (HP.out _).mono ?_
  rintro e w2 ⟨rfl, hb⟩
  have HB2 := Lib.hid (((Below.refl _ w1).alloc (Nat.le_refl _) _).trans (hb.mono (by simp)))
  clear hb
  go_wp2_with fail
  go_ret
  exact ⟨rfl, HB.out.trans (HB2.out.mono HB.out.size)⟩
set_option maxHeartbeats 2000000 in
theorem refNext_r_in {c k v : Int} (h : Fit c k v) (s u : Int) (hk : k < 1048575) (hu : 0 ≤ u ∧ u < 1099511627776) (W : World) :
    Calls Tryz.prog 61 #[.int .u64 (gI c k v), .int .i64 s, .int .i64 u] W fun e w' => e = .returned (.int .u64 (gI (clip u) (up k) (s % 16))) ∧ Below W.heap.size W w' := by
  have H := Lib.hid h
  have hs := low4 s
  have d0 : decide (k < 1048575) = true := by simpa using hk
  have d1 : decide (u < 0) = false := by simp; omega
  have d2 : decide (u ≥ 1099511627776) = false := by simp; omega
  have hc : clip u = u := by unfold clip; split <;> (try split) <;> omega
  have hq : up k = k + 1 := by unfold up; split <;> omega
  have HN := Lib.hid (next_fit h s u)
  have HP := Lib.hid (refPack_fit HN.out)
  rw [hc, hq] at HP
  rw [hc, hq]
  have hw : IntKind.i64.wrap (k + 1) = k + 1 := by have := h.k0; have := h.k1; rw [IntKind.wrap_i64]; omega
  clear h hk hu hc hq HN
  go_enter Tryz.func61, Tryz.ntmps61
  go_wp2_with fail
  go_at_call 33
  refine (refUnpack_any H.out _).mono ?_
  rintro e w1 ⟨rfl, hb⟩
  have HB := Lib.hid hb
  clear hb
  go_wp2_with fail
  go_at_call 94
  refine (HP.out _).mono ?_
  rintro e w2 ⟨rfl, hb⟩
  have HB2 := Lib.hid (((Below.refl _ w1).alloc (Nat.le_refl _) _).trans (hb.mono (by simp)))
  clear hb
  go_wp2_with fail
  go_ret
  exact ⟨rfl, HB.out.trans (HB2.out.mono HB.out.size)⟩
set_option maxHeartbeats 2000000 in
theorem refNext_t_lo {c k v : Int} (h : Fit c k v) (s u : Int) (hk : ¬ k < 1048575) (hu : u < 0) (W : World) :
    Calls Tryz.prog 61 #[.int .u64 (gI c k v), .int .i64 s, .int .i64 u] W fun e w' => e = .returned (.int .u64 (gI (clip u) (up k) (s % 16))) ∧ Below W.heap.size W w' := by
  have H := Lib.hid h
  have hs := low4 s
  have d0 : decide (k < 1048575) = false := by simpa using hk
  have d1 : decide (u < 0) = true := by simp; omega
  have d2 : decide (u ≥ 1099511627776) = false := by simp; omega
  have hc : clip u = 0 := by unfold clip; split <;> (try split) <;> omega
  have hq : up k = k := by have := h.k1; unfold up; split <;> omega
  have HN := Lib.hid (next_fit h s u)
  have HP := Lib.hid (refPack_fit HN.out)
  rw [hc, hq] at HP
  rw [hc, hq]
  have hw : IntKind.i64.wrap (k + 1) = k + 1 := by have := h.k0; have := h.k1; rw [IntKind.wrap_i64]; omega
  clear h hk hu hc hq HN
  go_enter Tryz.func61, Tryz.ntmps61
  go_wp2_with fail
  go_at_call 33
  refine (refUnpack_any H.out _).mono ?_
  rintro e w1 ⟨rfl, hb⟩
  have HB := Lib.hid hb
  clear hb
  go_wp2_with fail
  go_at_call 94
  refine (HP.out _).mono ?_
  rintro e w2 ⟨rfl, hb⟩
  have HB2 := Lib.hid (((Below.refl _ w1).alloc (Nat.le_refl _) _).trans (hb.mono (by simp)))
  clear hb
  go_wp2_with fail
  go_ret
  exact ⟨rfl, HB.out.trans (HB2.out.mono HB.out.size)⟩
set_option maxHeartbeats 2000000 in
theorem refNext_t_hi {c k v : Int} (h : Fit c k v) (s u : Int) (hk : ¬ k < 1048575) (hu : 1099511627776 ≤ u) (W : World) :
    Calls Tryz.prog 61 #[.int .u64 (gI c k v), .int .i64 s, .int .i64 u] W fun e w' => e = .returned (.int .u64 (gI (clip u) (up k) (s % 16))) ∧ Below W.heap.size W w' := by
  have H := Lib.hid h
  have hs := low4 s
  have d0 : decide (k < 1048575) = false := by simpa using hk
  have d1 : decide (u < 0) = false := by simp; omega
  have d2 : decide (u ≥ 1099511627776) = true := by simp; omega
  have hc : clip u = 1099511627775 := by unfold clip; split <;> (try split) <;> omega
  have hq : up k = k := by have := h.k1; unfold up; split <;> omega
  have HN := Lib.hid (next_fit h s u)
  have HP := Lib.hid (refPack_fit HN.out)
  rw [hc, hq] at HP
  rw [hc, hq]
  have hw : IntKind.i64.wrap (k + 1) = k + 1 := by have := h.k0; have := h.k1; rw [IntKind.wrap_i64]; omega
  clear h hk hu hc hq HN
  go_enter Tryz.func61, Tryz.ntmps61
  go_wp2_with fail
  go_at_call 33
  refine (refUnpack_any H.out _).mono ?_
  rintro e w1 ⟨rfl, hb⟩
  have HB := Lib.hid hb
  clear hb
  go_wp2_with fail
  go_at_call 94
  refine (HP.out _).mono ?_
  rintro e w2 ⟨rfl, hb⟩
  have HB2 := Lib.hid (((Below.refl _ w1).alloc (Nat.le_refl _) _).trans (hb.mono (by simp)))
  clear hb
  go_wp2_with fail
  go_ret
  exact ⟨rfl, HB.out.trans (HB2.out.mono HB.out.size)⟩
set_option maxHeartbeats 2000000 in
theorem refNext_t_in {c k v : Int} (h : Fit c k v) (s u : Int) (hk : ¬ k < 1048575) (hu : 0 ≤ u ∧ u < 1099511627776) (W : World) :
    Calls Tryz.prog 61 #[.int .u64 (gI c k v), .int .i64 s, .int .i64 u] W fun e w' => e = .returned (.int .u64 (gI (clip u) (up k) (s % 16))) ∧ Below W.heap.size W w' := by
  have H := Lib.hid h
  have hs := low4 s
  have d0 : decide (k < 1048575) = false := by simpa using hk
  have d1 : decide (u < 0) = false := by simp; omega
  have d2 : decide (u ≥ 1099511627776) = false := by simp; omega
  have hc : clip u = u := by unfold clip; split <;> (try split) <;> omega
  have hq : up k = k := by have := h.k1; unfold up; split <;> omega
  have HN := Lib.hid (next_fit h s u)
  have HP := Lib.hid (refPack_fit HN.out)
  rw [hc, hq] at HP
  rw [hc, hq]
  have hw : IntKind.i64.wrap (k + 1) = k + 1 := by have := h.k0; have := h.k1; rw [IntKind.wrap_i64]; omega
  clear h hk hu hc hq HN
  go_enter Tryz.func61, Tryz.ntmps61
  go_wp2_with fail
  go_at_call 33
  refine (refUnpack_any H.out _).mono ?_
  rintro e w1 ⟨rfl, hb⟩
  have HB := Lib.hid hb
  clear hb
  go_wp2_with fail
  go_at_call 94
  refine (HP.out _).mono ?_
  rintro e w2 ⟨rfl, hb⟩
  have HB2 := Lib.hid (((Below.refl _ w1).alloc (Nat.le_refl _) _).trans (hb.mono (by simp)))
  clear hb
  go_wp2_with fail
  go_ret
  exact ⟨rfl, HB.out.trans (HB2.out.mono HB.out.size)⟩
theorem refNext_any {c k v : Int} (h : Fit c k v) (s u : Int) (W : World) :
    Calls Tryz.prog 61 #[.int .u64 (gI c k v), .int .i64 s, .int .i64 u] W fun e w' => e = .returned (.int .u64 (gI (clip u) (up k) (s % 16))) ∧ Below W.heap.size W w' := by
  by_cases hk : k < 1048575
  · by_cases h0 : u < 0
    · exact refNext_r_lo h s u hk h0 W
    · by_cases h1 : 1099511627776 ≤ u
      · exact refNext_r_hi h s u hk h1 W
      · exact refNext_r_in h s u hk (by omega) W
  · by_cases h0 : u < 0
    · exact refNext_t_lo h s u hk h0 W
    · by_cases h1 : 1099511627776 ≤ u
      · exact refNext_t_hi h s u hk h1 W
      · exact refNext_t_in h s u hk (by omega) W

set_option maxHeartbeats 1000000 in
theorem refOver_any {c k v : Int} (h : Fit c k v) (t : Int) (W : World) :
    Calls Tryz.prog 91 #[.int .u64 (gI c k v), .int .i64 t] W fun e w' => e = .returned (.bool (overB c k v t)) ∧ Below W.heap.size W w' := by
  have H := Lib.hid h
  have hv : v.tmod 15 = v % 15 := Int.tmod_eq_emod_of_nonneg h.v0
  have hw : IntKind.i64.wrap (v % 15) = v % 15 := by rw [IntKind.wrap_i64]; omega
  have hm : v % 15 = 0 ↔ v = 0 ∨ v = 15 := by have := h.v0; have := h.v1; omega
  clear h
  by_cases h0 : v % 15 = 0
  · have d0 : (v % 15 == (0 : Int)) = true := by simpa using h0
    have hb : overB c k v t = true := by unfold overB; have := hm.1 h0; simp; omega
    clear hm h0
    rw [hb]
    clear hb
    go_enter Tryz.func91, Tryz.ntmps91
    go_wp2_with fail
    go_at_call 33
    refine (refUnpack_any H.out _).mono ?_
    rintro e w1 ⟨rfl, hb⟩
    have HB := Lib.hid (hb.alloc hb.size (.cells (gtc v k c) 50))
    obtain ⟨x0, x1, x2⟩ := gt_cells (Blk.box w1 (gtc v k c) 50)
    clear hb
    go_wp2_with fail
    go_ret
    exact ⟨rfl, HB.out⟩
  have d0 : (v % 15 == (0 : Int)) = false := by simpa using h0
  by_cases h1 : k = 1048575
  · have d1 : (k == (1048575 : Int)) = true := by simpa using h1
    have hb : overB c k v t = true := by unfold overB; simp; omega
    clear hm h0 h1
    rw [hb]
    clear hb
    go_enter Tryz.func91, Tryz.ntmps91
    go_wp2_with fail
    go_at_call 33
    refine (refUnpack_any H.out _).mono ?_
    rintro e w1 ⟨rfl, hb⟩
    have HB := Lib.hid (hb.alloc hb.size (.cells (gtc v k c) 50))
    obtain ⟨x0, x1, x2⟩ := gt_cells (Blk.box w1 (gtc v k c) 50)
    clear hb
    go_wp2_with fail
    go_ret
    exact ⟨rfl, HB.out⟩
  have d1 : (k == (1048575 : Int)) = false := by simpa using h1
  by_cases h2 : t ≥ c
  · have d2 : (decide (t ≥ c)) = true := by simpa using h2
    have hb : overB c k v t = true := by unfold overB; simp; omega
    clear hm h0 h1 h2
    rw [hb]
    clear hb
    go_enter Tryz.func91, Tryz.ntmps91
    go_wp2_with fail
    go_at_call 33
    refine (refUnpack_any H.out _).mono ?_
    rintro e w1 ⟨rfl, hb⟩
    have HB := Lib.hid (hb.alloc hb.size (.cells (gtc v k c) 50))
    obtain ⟨x0, x1, x2⟩ := gt_cells (Blk.box w1 (gtc v k c) 50)
    clear hb
    go_wp2_with fail
    go_ret
    exact ⟨rfl, HB.out⟩
  have d2 : (decide (t ≥ c)) = false := by simpa using h2
  have hb : overB c k v t = false := by unfold overB; have : ¬ (v = 0 ∨ v = 15) := fun h => h0 (hm.2 h); simp; omega
  clear hm h0 h1 h2
  rw [hb]
  clear hb
  go_enter Tryz.func91, Tryz.ntmps91
  go_wp2_with fail
  go_at_call 33
  refine (refUnpack_any H.out _).mono ?_
  rintro e w1 ⟨rfl, hb⟩
  have HB := Lib.hid (hb.alloc hb.size (.cells (gtc v k c) 50))
  obtain ⟨x0, x1, x2⟩ := gt_cells (Blk.box w1 (gtc v k c) 50)
  clear hb
  go_wp2_with fail
  go_ret
  exact ⟨rfl, HB.out⟩
end Fl
end Go.Proofs.YtgcnhbjoalemlaaGreatDoor
