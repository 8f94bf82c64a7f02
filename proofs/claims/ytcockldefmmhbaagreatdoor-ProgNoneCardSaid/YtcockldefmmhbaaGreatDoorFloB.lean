/- Layer 15: the contracts of flow.Dead, Next, Over. -/
import Derived.Test.YtcockldefmmhbaaGreatDoorJ38
import Derived.Deep.RegionHeld
set_option linter.unusedVariables false
set_option linter.unusedSimpArgs false
set_option maxRecDepth 100000
namespace Go.Proofs.YtcockldefmmhbaaGreatDoor
open Go.ChangeShapes Go.WideShapes Go.ChangeAt Go.RowKit Go.Mtl
namespace Fl
open FloM (gI Fit)

theorem quiet_below {P : Program} {f : FuncId} {args : Array Value} {w : World} {v : Value} (h : Calls P f args w fun e w' => e = .returned v ∧ ∃ n, w' = w.drewN n) : Calls P f args w fun e w' => e = .returned v ∧ Below w.heap.size w w' :=
  h.mono fun _ _ ⟨a, n, b⟩ => ⟨a, b ▸ (Below.refl _ w).drews n⟩
set_option maxHeartbeats 1000000 in
theorem dead_any (W : World) (he : Env W) :
    Calls Tryz.prog 169 #[] W fun e w' => e = .returned (.int .u64 (gI 0 0 15)) ∧ ∃ n, w' = W.drewN n := by
  have H := Lib.hid (put_v (c := 0) (k := 0) (v := 0) (n := 15) ⟨by omega, by omega, by omega, by omega, by omega, by omega⟩ W he)
  clear he
  go_enter Tryz.func169, Tryz.ntmps169
  go_wp2_with (go_at_call 222; refine H.out.mono ?_; rintro e w' ⟨rfl, nq, rfl⟩)
  go_ret
  exact ⟨rfl, nq, rfl⟩

/-- A time, cut to what fits; a number of changes, one greater where it may be. -/
def clip (u : Int) : Int := if u < 0 then 0 else if 1099511627775 < u then 1099511627775 else u
def up (k : Int) : Int := if k < 1048575 then k + 1 else 1048575
theorem clip_fit (u : Int) : 0 ≤ clip u ∧ clip u < 1099511627776 := by unfold clip; split <;> (try split) <;> omega
theorem up_fit {k : Int} (h0 : 0 ≤ k) (h1 : k < 1048576) : 0 ≤ up k ∧ up k < 1048576 := by unfold up; split <;> omega
theorem next_fit {c k v : Int} (h : Fit c k v) (s u : Int) : Fit (clip u) (up k) (s % 16) := by
  have h1 := clip_fit u
  have h2 := up_fit h.k0 h.k1
  exact ⟨h1.1, h1.2, h2.1, h2.2, by omega, by omega⟩
/-- What Next keeps: the table; nothing is made. -/
def QW (W w : World) : Prop := Env w ∧ ∃ n, w = W.drewN n
theorem QW.next {W w w' : World} (H : QW W w) (hb : ∃ n, w' = w.drewN n) : QW W w' := by
  obtain ⟨he, n, rfl⟩ := H
  obtain ⟨m, rfl⟩ := hb
  exact ⟨he.drewN m, n + m, by rw [World.drewN_drewN]⟩
theorem QW.drew {W w : World} (H : QW W w) : QW W w.drew := ⟨H.1.drewN 1, H.2.elim fun n h => ⟨n + 1, by rw [h]; rfl⟩⟩
theorem QW.start {W : World} (he : Env W) : QW W W := ⟨he, 0, rfl⟩

set_option maxHeartbeats 4000000 in
theorem next_any {c k v : Int} (h : Fit c k v) (s u : Int) (W : World) (he : Env W) :
    Calls Tryz.prog 199 #[.int .u64 (gI c k v), .int .i64 s, .int .i64 u] W fun e w' => e = .returned (.int .u64 (gI (clip u) (up k) (s % 16))) ∧ ∃ n, w' = W.drewN n := by
  have H := Lib.hid h
  have H2 : Hid (Fit c k (s % 16)) := ⟨h.c0, h.c1, h.k0, h.k1, by omega, by omega⟩
  have HN := Lib.hid (next_fit h s u)
  have H3 : Hid (Fit c (up k) (s % 16)) := ⟨h.c0, h.c1, HN.out.k0, HN.out.k1, by omega, by omega⟩
  have HE := Lib.hid (QW.start he)
  have hk : 0 ≤ k ∧ k < 1048576 := ⟨h.k0, h.k1⟩
  have hw : wrap64 (k + 1) = k + 1 := IntWalk.wrap64_in _ (by omega)
  have hup : (if 1048575 < IntKind.i64.wrap (k + 1) then 1048575 else IntKind.i64.wrap (k + 1)) = up k := by
    rw [IntKind.wrap_i64]; unfold up; split <;> split <;> omega
  have hcl : (if 1099511627775 < (if u < 0 then 0 else u) then 1099511627775 else (if u < 0 then 0 else u)) = clip u := by unfold clip; split <;> split <;> (try split) <;> omega
  clear he h hw hk
  go_enter Tryz.func199, Tryz.ntmps199
  go_wp2_with fail
  go_at_call 222
  refine (put_v H.out _ HE.out.1).mono ?_
  rintro e w1 ⟨rfl, hb⟩
  have HE1 := Lib.hid (HE.out.next hb)
  clear hb
  go_wp2_with fail
  refine wp_region_held_drew (S := fun w' => QW W w') (by kernel_rfl) (HE1.out.drew) (fun hH => ?_)
  refine wpAnyH_take (i := 0) (oi := ⟨some 10, _, _, _, _, _⟩) (v := ?v1) rfl (by kernel_rfl) (by kernel_rfl) (by kernel_rfl) (fun _ _ _ h => h) (Or.inl ⟨rfl, ?c1⟩) hH ?r1
  case c1 => (intro w' _; go_simp; (try with_reducible rfl))
  try simp only [Act.put, List.setIfInBounds_toArray, List.set_cons_zero, List.set_cons_succ]
  refine wpAnyH_take (i := 1) (oi := ⟨some 11, _, _, _, _, _⟩) (v := ?v2) rfl (by kernel_rfl) (by kernel_rfl) (by kernel_rfl) (fun _ _ _ h => h) (Or.inl ⟨rfl, ?c2⟩) hH ?r2
  case c2 => (intro w' _; go_simp; (try with_reducible rfl))
  try simp only [Act.put, List.setIfInBounds_toArray, List.set_cons_zero, List.set_cons_succ]
  refine wpAnyH_take (i := 4) (oi := ⟨some 14, _, _, _, _, _⟩) (v := ?v3) rfl (by kernel_rfl) (by kernel_rfl) (by kernel_rfl) (fun _ _ _ h => h) (Or.inl ⟨rfl, ?c3⟩) hH ?r3
  case c3 => (intro w' _; go_simp; (try with_reducible rfl))
  try simp only [Act.put, List.setIfInBounds_toArray, List.set_cons_zero, List.set_cons_succ]
  refine wpAnyH_take (i := 5) (oi := ⟨some 15, _, _, _, _, _⟩) (v := ?v4) rfl (by kernel_rfl) (by kernel_rfl) (by kernel_rfl) (fun _ _ _ h => h) (Or.inl ⟨rfl, ?c4⟩) hH ?r4
  case c4 => (intro w' _; go_simp; (try with_reducible rfl))
  try simp only [Act.put, List.setIfInBounds_toArray, List.set_cons_zero, List.set_cons_succ]
  refine wpAnyH_take (i := 6) (oi := ⟨some 16, _, _, _, _, _⟩) (v := ?v5) rfl (by kernel_rfl) (by kernel_rfl) (by kernel_rfl) (fun _ _ _ h => h) (Or.inl ⟨rfl, ?c5⟩) hH ?r5
  case c5 => (intro w' hS; have x0 := hS.1.c5; go_simp; (try with_reducible rfl))
  try simp only [Act.put, List.setIfInBounds_toArray, List.set_cons_zero, List.set_cons_succ]
  refine wpAnyH_ready (rs := [2]) (by kernel_rfl) (by simp) (AllReadyH.cons rfl (fun K hK => ?_) (AllReadyH.nil))
  go_simp
  refine (get_k H2.out _ hH.1).mono ?_
  rintro e w8 ⟨rfl, hbp⟩
  refine hK.out _ _ (hH.next hbp) (fun hH => ?_)
  clear hK K
  clear hbp
  try simp only [Act.put, List.setIfInBounds_toArray, List.set_cons_zero, List.set_cons_succ]
  refine wpAnyH_take (i := 3) (oi := ⟨some 13, _, _, _, _, _⟩) (v := ?v6) rfl (by kernel_rfl) (by kernel_rfl) (by kernel_rfl) (fun _ _ _ h => h) (Or.inl ⟨rfl, ?c6⟩) hH ?r6
  case c6 => (intro w' _; go_simp; (try with_reducible rfl))
  try simp only [Act.put, List.setIfInBounds_toArray, List.set_cons_zero, List.set_cons_succ]
  refine wpAnyH_take (i := 7) (oi := ⟨some 17, _, _, _, _, _⟩) (v := ?v7) rfl (by kernel_rfl) (by kernel_rfl) (by kernel_rfl) (fun _ _ _ h => h) (Or.inl ⟨rfl, ?c7⟩) hH ?r7
  case c7 => (intro w' _; go_simp; (try with_reducible rfl))
  try simp only [Act.put, List.setIfInBounds_toArray, List.set_cons_zero, List.set_cons_succ]
  refine wpAnyH_ready (rs := [8]) (by kernel_rfl) (by simp) (AllReadyH.cons rfl (fun K hK => ?_) (AllReadyH.nil))
  go_simp
  refine (put_k H2.out HN.out.k0 HN.out.k1 _ hH.1).mono ?_
  rintro e w9 ⟨rfl, hbp⟩
  refine hK.out _ _ (hH.next hbp) (fun hH => ?_)
  clear hK K
  clear hbp
  try simp only [Act.put, List.setIfInBounds_toArray, List.set_cons_zero, List.set_cons_succ]
  refine wpAnyH_take (i := 9) (oi := ⟨some 0, _, _, _, _, _⟩) (v := ?v8) rfl (by kernel_rfl) (by kernel_rfl) (by kernel_rfl) (fun _ _ _ h => h) (Or.inl ⟨rfl, ?c8⟩) hH ?r8
  case c8 => (intro w' _; go_simp; (try with_reducible rfl))
  try simp only [Act.put, List.setIfInBounds_toArray, List.set_cons_zero, List.set_cons_succ]
  refine wpAnyH_done (by kernel_rfl) ?_ _
  have x1 := hH.1.c2
  go_wp2_with fail
  all_goals (
    go_at_call 222
    refine (put_c H3.out HN.out.c0 HN.out.c1 _ hH.1).mono ?_
    rintro e w10 ⟨rfl, hb⟩
    have HE2 := Lib.hid (hH.next hb)
    clear hb hH
    go_wp2_with fail
    go_ret
    exact ⟨rfl, HE2.out.2⟩)

/-- Whether a flow is over at the clock t. -/
def overB (c k v t : Int) : Bool := decide (v = 0 ∨ v = 15 ∨ c ≤ t ∨ k = 1048575)
set_option maxHeartbeats 1000000 in
theorem over_any {c k v : Int} (h : Fit c k v) (t : Int) (W : World) (he : Env W) :
    Calls Tryz.prog 193 #[.int .u64 (gI c k v), .int .i64 t] W fun e w' => e = .returned (.bool (overB c k v t)) ∧ Below W.heap.size W w' := by
  have H := Lib.hid h
  have HE := Lib.hid he
  clear he h
  by_cases h0 : v = 0
  · have d0 : (v == (0 : Int)) = true := by simpa using h0
    have hb : overB c k v t = true := by unfold overB; simp [h0]
    clear h0
    rw [hb]
    clear hb
    go_enter Tryz.func193, Tryz.ntmps193
    go_wp2_with fail
    go_at_call 205
    refine (unpack_any H.out _ HE.out).mono ?_
    rintro e w1 ⟨rfl, hb⟩
    have HB := Lib.hid (hb.alloc hb.size (.cells (gtc v k c) 263))
    obtain ⟨x0, x1, x2⟩ := gt_cells (Blk.box w1 (gtc v k c) 263)
    clear hb
    go_wp2_with fail
    go_ret
    exact ⟨rfl, HB.out⟩
  have d0 : (v == (0 : Int)) = false := by simpa using h0
  by_cases h1 : v = 15
  · have d1 : (v == (15 : Int)) = true := by simpa using h1
    have hb : overB c k v t = true := by unfold overB; simp [h1]
    clear h1
    rw [hb]
    clear hb
    go_enter Tryz.func193, Tryz.ntmps193
    go_wp2_with fail
    go_at_call 205
    refine (unpack_any H.out _ HE.out).mono ?_
    rintro e w1 ⟨rfl, hb⟩
    have HB := Lib.hid (hb.alloc hb.size (.cells (gtc v k c) 263))
    obtain ⟨x0, x1, x2⟩ := gt_cells (Blk.box w1 (gtc v k c) 263)
    clear hb
    go_wp2_with fail
    go_ret
    exact ⟨rfl, HB.out⟩
  have d1 : (v == (15 : Int)) = false := by simpa using h1
  by_cases h2 : c ≤ t
  · have d2 : (decide (c ≤ t)) = true := by simpa using h2
    have hb : overB c k v t = true := by unfold overB; simp [h2]
    clear h2
    rw [hb]
    clear hb
    go_enter Tryz.func193, Tryz.ntmps193
    go_wp2_with fail
    go_at_call 205
    refine (unpack_any H.out _ HE.out).mono ?_
    rintro e w1 ⟨rfl, hb⟩
    have HB := Lib.hid (hb.alloc hb.size (.cells (gtc v k c) 263))
    obtain ⟨x0, x1, x2⟩ := gt_cells (Blk.box w1 (gtc v k c) 263)
    clear hb
    go_wp2_with fail
    go_ret
    exact ⟨rfl, HB.out⟩
  have d2 : (decide (c ≤ t)) = false := by simpa using h2
  by_cases h3 : k = 1048575
  · have d3 : (k == (1048575 : Int)) = true := by simpa using h3
    have hb : overB c k v t = true := by unfold overB; simp [h3]
    clear h3
    rw [hb]
    clear hb
    go_enter Tryz.func193, Tryz.ntmps193
    go_wp2_with fail
    go_at_call 205
    refine (unpack_any H.out _ HE.out).mono ?_
    rintro e w1 ⟨rfl, hb⟩
    have HB := Lib.hid (hb.alloc hb.size (.cells (gtc v k c) 263))
    obtain ⟨x0, x1, x2⟩ := gt_cells (Blk.box w1 (gtc v k c) 263)
    clear hb
    go_wp2_with fail
    go_ret
    exact ⟨rfl, HB.out⟩
  have d3 : (k == (1048575 : Int)) = false := by simpa using h3
  have hb : overB c k v t = false := by unfold overB; simp [h0, h1, h2, h3]
  clear h0 h1 h2 h3
  rw [hb]
  clear hb
  go_enter Tryz.func193, Tryz.ntmps193
  go_wp2_with fail
  go_at_call 205
  refine (unpack_any H.out _ HE.out).mono ?_
  rintro e w1 ⟨rfl, hb⟩
  have HB := Lib.hid (hb.alloc hb.size (.cells (gtc v k c) 263))
  obtain ⟨x0, x1, x2⟩ := gt_cells (Blk.box w1 (gtc v k c) 263)
  clear hb
  go_wp2_with fail
  go_ret
  exact ⟨rfl, HB.out⟩
end Fl
end Go.Proofs.YtcockldefmmhbaaGreatDoor
