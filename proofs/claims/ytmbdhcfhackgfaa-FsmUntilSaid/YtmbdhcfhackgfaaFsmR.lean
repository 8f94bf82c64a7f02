/- Layer 17: the walk of FsmUntil. (Written by wip/tools/mkFsmR.py.) -/
import Derived.Test.YtmbdhcfhackgfaaFsmQ
set_option linter.unusedVariables false
set_option linter.unusedSimpArgs false
namespace Go.Proofs.Ytmbdhcfhackgfaa
open Go.ChangeShapes Go.WideShapes Go.ChangeAt Go.RowKit Go.Mtl Go.Lib
namespace Fs

theorem until_is (cs : Array Value) (t : Nat → Int) (H : Six cs t) (s c u : Int) (hu : untN t s c = u) (W : World) :
    Calls Try.prog 11 #[.agg cs, .int .i64 s, .int .i64 c] W fun e w' => e = .returned (.int .i64 u) ∧ Below W.heap.size W w' := by
  subst hu
  exact until_any cs t H s c W
theorem unt_mid (t : Nat → Int) (s : Int) : ∃ T : Int, 1 ≤ T ∧ T ≤ 1048576 ∧ ∀ c, 0 ≤ c → untN t s c = min (min c 1099511627775 + T) 1099511627775 := by
  refine ⟨clampN (tmo t s) 1 1048576, by unfold clampN; omega, by unfold clampN; omega, fun c hc => ?_⟩
  unfold untN
  have : clampN c 0 1099511627775 = min c 1099511627775 := by unfold clampN; omega
  rw [this]

theorem Six.all {cs : Array Value} {t : Nat → Int} (H : Six cs t) : cs = #[.int .i64 (t 0), .int .i64 (t 1), .int .i64 (t 2), .int .i64 (t 3), .int .i64 (t 4), .int .i64 (t 5), .int .i64 (t 6), .int .i64 (t 7), .int .i64 (t 8), .int .i64 (t 9), .int .i64 (t 10), .int .i64 (t 11), .int .i64 (t 12), .int .i64 (t 13), .int .i64 (t 14), .int .i64 (t 15)] := by
  have hz := H.size
  have h := H.cell
  apply Array.ext_getElem?
  intro i
  by_cases hi : i < 16
  · rw [h i hi]
    rcases (show i = 0 ∨ i = 1 ∨ i = 2 ∨ i = 3 ∨ i = 4 ∨ i = 5 ∨ i = 6 ∨ i = 7 ∨ i = 8 ∨ i = 9 ∨ i = 10 ∨ i = 11 ∨ i = 12 ∨ i = 13 ∨ i = 14 ∨ i = 15 by omega) with rfl | rfl | rfl | rfl | rfl | rfl | rfl | rfl | rfl | rfl | rfl | rfl | rfl | rfl | rfl | rfl <;> rfl
  · rw [Array.getElem?_eq_none (by omega), Array.getElem?_eq_none (by simp; omega)]

set_option maxHeartbeats 4000000 in
theorem fsmUntil_walk (cs : Array Value) (t : Nat → Int) (a1 a2 a3 : Int) (w : World) (hT : Six cs t) (w1 : 0 ≤ a1 ∧ a1 ≤ 255) (w2 : 0 ≤ a2 ∧ a2 ≤ 4294967295) (w3 : 0 ≤ a3 ∧ a3 ≤ 65535) :
    Calls Try.prog 5 #[.agg cs, .int .u8 a1, .int .u32 a2, .int .u16 a3] w fun e w' => e = .returned (.bool true) ∧ Below w.heap.size w w' := by
  obtain ⟨T, t0, t1, hu⟩ := unt_mid t (a1 % 16)
  have C0 := Lib.hid (until_is cs t hT (a1 % 16) a2 (a2 + T) (by rw [hu a2 (by omega)]; omega))
  have C1 := Lib.hid (until_is cs t hT (a1 % 16) (a2 + a3) (a2 + a3 + T) (by rw [hu (a2 + a3) (by omega)]; omega))
  have C2 := Lib.hid (until_is cs t hT (a1 % 16) 1099511627775 1099511627775 (by rw [hu 1099511627775 (by omega)]; omega))
  have HZ := Lib.hid hT.size
  have HA : Hid (cs = #[.int .i64 (t 0), .int .i64 (t 1), .int .i64 (t 2), .int .i64 (t 3), .int .i64 (t 4), .int .i64 (t 5), .int .i64 (t 6), .int .i64 (t 7), .int .i64 (t 8), .int .i64 (t 9), .int .i64 (t 10), .int .i64 (t 11), .int .i64 (t 12), .int .i64 (t 13), .int .i64 (t 14), .int .i64 (t 15)]) := hT.all
  have HC := Lib.hid hT.cell
  have F1 := Lib.hid t1
  have F0 := Lib.hid t0
  have E2 : Hid (IntKind.i64.wrap a2 = a2) := by show _ = _; rw [IntKind.wrap_i64]; omega
  have E3 : Hid (IntKind.i64.wrap a3 = a3) := by show _ = _; rw [IntKind.wrap_i64]; omega
  have E4 : Hid (IntKind.i64.wrap (a2 + a3) = a2 + a3) := by show _ = _; rw [IntKind.wrap_i64]; omega
  have E5 : Hid (IntKind.i64.wrap (a2 + 1048576) = a2 + 1048576) := by show _ = _; rw [IntKind.wrap_i64]; omega
  have E6 : Hid (IntKind.i64.wrap (a2 + a3 + T - (a2 + T)) = a3) := by show _ = _; rw [IntKind.wrap_i64]; omega
  have D1 : Hid (decide (a2 + T > a2) = true) := by show _ = _; simp; omega
  have D2 : Hid (decide (a2 + T ≤ a2 + 1048576) = true) := by show _ = _; simp; omega
  clear hu hT w2 w3 t0 t1
  have HT0 := Lib.hid (Blk.box w cs 26)
  have HB0 := Lib.hid (below_pk w (.cells cs 26))
  go_enter Try.func5, Try.ntmps5
  go_wp2_with fail
  clear w1
  refine wp_region_held_drew (S := fun w' => Blk w' w.heap.size cs 26 ∧ Below w.heap.size w w') (by kernel_rfl) (⟨HT0.out.drew, HB0.out.drew⟩) (fun hH => ?_)
  refine wpAnyH_take (i := 0) (oi := ⟨some 15, _, _, _, _, _⟩) (v := ?v1) rfl (by kernel_rfl) (by kernel_rfl) (by kernel_rfl) (fun _ _ _ h => h) (Or.inl ⟨rfl, ?c1⟩) hH ?r1
  case c1 => (intro w' hS; refine take_six hS.1 HZ.out (.tmp 4) ?_ ?_ <;> rfl)
  try simp only [Act.put, List.setIfInBounds_toArray, List.set_cons_zero, List.set_cons_succ]
  refine wpAnyH_take (i := 1) (oi := ⟨some 16, _, _, _, _, _⟩) (v := ?v2) rfl (by kernel_rfl) (by kernel_rfl) (by kernel_rfl) (fun _ _ _ h => h) (Or.inl ⟨rfl, ?c2⟩) hH ?r2
  case c2 => (intro w' _; go_simp; (try with_reducible rfl))
  try simp only [Act.put, List.setIfInBounds_toArray, List.set_cons_zero, List.set_cons_succ]
  refine wpAnyH_take (i := 2) (oi := ⟨some 17, _, _, _, _, _⟩) (v := ?v3) rfl (by kernel_rfl) (by kernel_rfl) (by kernel_rfl) (fun _ _ _ h => h) (Or.inl ⟨rfl, ?c3⟩) hH ?r3
  case c3 => (intro w' _; go_simp; (try with_reducible rfl))
  try simp only [Act.put, List.setIfInBounds_toArray, List.set_cons_zero, List.set_cons_succ]
  refine wpAnyH_take (i := 3) (oi := ⟨some 18, _, _, _, _, _⟩) (v := ?v4) rfl (by kernel_rfl) (by kernel_rfl) (by kernel_rfl) (fun _ _ _ h => h) (Or.inl ⟨rfl, ?c4⟩) hH ?r4
  case c4 => (intro w' _; have ee := E2.out; go_simp; (try with_reducible rfl))
  try simp only [Act.put, List.setIfInBounds_toArray, List.set_cons_zero, List.set_cons_succ]
  refine wpAnyH_take (i := 5) (oi := ⟨some 20, _, _, _, _, _⟩) (v := ?v5) rfl (by kernel_rfl) (by kernel_rfl) (by kernel_rfl) (fun _ _ _ h => h) (Or.inl ⟨rfl, ?c5⟩) hH ?r5
  case c5 => (intro w' hS; refine take_six hS.1 HZ.out (.tmp 4) ?_ ?_ <;> rfl)
  try simp only [Act.put, List.setIfInBounds_toArray, List.set_cons_zero, List.set_cons_succ]
  refine wpAnyH_take (i := 6) (oi := ⟨some 21, _, _, _, _, _⟩) (v := ?v6) rfl (by kernel_rfl) (by kernel_rfl) (by kernel_rfl) (fun _ _ _ h => h) (Or.inl ⟨rfl, ?c6⟩) hH ?r6
  case c6 => (intro w' _; go_simp; (try with_reducible rfl))
  try simp only [Act.put, List.setIfInBounds_toArray, List.set_cons_zero, List.set_cons_succ]
  refine wpAnyH_take (i := 7) (oi := ⟨some 22, _, _, _, _, _⟩) (v := ?v7) rfl (by kernel_rfl) (by kernel_rfl) (by kernel_rfl) (fun _ _ _ h => h) (Or.inl ⟨rfl, ?c7⟩) hH ?r7
  case c7 => (intro w' _; go_simp; (try with_reducible rfl))
  try simp only [Act.put, List.setIfInBounds_toArray, List.set_cons_zero, List.set_cons_succ]
  refine wpAnyH_take (i := 8) (oi := ⟨some 23, _, _, _, _, _⟩) (v := ?v8) rfl (by kernel_rfl) (by kernel_rfl) (by kernel_rfl) (fun _ _ _ h => h) (Or.inl ⟨rfl, ?c8⟩) hH ?r8
  case c8 => (intro w' _; have ee := E2.out; go_simp; (try with_reducible rfl))
  try simp only [Act.put, List.setIfInBounds_toArray, List.set_cons_zero, List.set_cons_succ]
  refine wpAnyH_take (i := 9) (oi := ⟨some 24, _, _, _, _, _⟩) (v := ?v9) rfl (by kernel_rfl) (by kernel_rfl) (by kernel_rfl) (fun _ _ _ h => h) (Or.inl ⟨rfl, ?c9⟩) hH ?r9
  case c9 => (intro w' _; go_simp; (try with_reducible rfl))
  try simp only [Act.put, List.setIfInBounds_toArray, List.set_cons_zero, List.set_cons_succ]
  refine wpAnyH_take (i := 10) (oi := ⟨some 25, _, _, _, _, _⟩) (v := ?v10) rfl (by kernel_rfl) (by kernel_rfl) (by kernel_rfl) (fun _ _ _ h => h) (Or.inl ⟨rfl, ?c10⟩) hH ?r10
  case c10 => (intro w' _; have ee := E3.out; go_simp; (try with_reducible rfl))
  try simp only [Act.put, List.setIfInBounds_toArray, List.set_cons_zero, List.set_cons_succ]
  refine wpAnyH_take (i := 11) (oi := ⟨some 26, _, _, _, _, _⟩) (v := ?v11) rfl (by kernel_rfl) (by kernel_rfl) (by kernel_rfl) (fun _ _ _ h => h) (Or.inl ⟨rfl, ?c11⟩) hH ?r11
  case c11 => (intro w' _; have ee := E4.out; go_simp; (try with_reducible rfl))
  try simp only [Act.put, List.setIfInBounds_toArray, List.set_cons_zero, List.set_cons_succ]
  refine wpAnyH_ready (rs := [4]) (by kernel_rfl) (by simp) (AllReadyH.cons rfl (fun K hK => ?_) (AllReadyH.nil))
  go_simp
  go_at_call 11
  refine (C0.out _).mono ?_
  rintro e w6 ⟨rfl, hbp⟩
  refine hK.out _ _ (⟨hH.1.next hbp, hH.2.trans (hbp.mono hH.2.size)⟩) (fun hH => ?_)
  clear hK K
  clear hbp
  try simp only [Act.put, List.setIfInBounds_toArray, List.set_cons_zero, List.set_cons_succ]
  refine wpAnyH_ready (rs := [12]) (by kernel_rfl) (by simp) (AllReadyH.cons rfl (fun K hK => ?_) (AllReadyH.nil))
  go_simp
  go_at_call 11
  refine (C1.out _).mono ?_
  rintro e w6 ⟨rfl, hbp⟩
  refine hK.out _ _ (⟨hH.1.next hbp, hH.2.trans (hbp.mono hH.2.size)⟩) (fun hH => ?_)
  clear hK K
  clear hbp
  try simp only [Act.put, List.setIfInBounds_toArray, List.set_cons_zero, List.set_cons_succ]
  refine wpAnyH_take (i := 13) (oi := ⟨some 10, _, _, _, _, _⟩) (v := ?v12) rfl (by kernel_rfl) (by kernel_rfl) (by kernel_rfl) (fun _ _ _ h => h) (Or.inl ⟨rfl, ?c12⟩) hH ?r12
  case c12 => (intro w' _; go_simp; (try with_reducible rfl))
  try simp only [Act.put, List.setIfInBounds_toArray, List.set_cons_zero, List.set_cons_succ]
  refine wpAnyH_take (i := 14) (oi := ⟨some 11, _, _, _, _, _⟩) (v := ?v13) rfl (by kernel_rfl) (by kernel_rfl) (by kernel_rfl) (fun _ _ _ h => h) (Or.inl ⟨rfl, ?c13⟩) hH ?r13
  case c13 => (intro w' _; go_simp; (try with_reducible rfl))
  try simp only [Act.put, List.setIfInBounds_toArray, List.set_cons_zero, List.set_cons_succ]
  refine wpAnyH_done (by kernel_rfl) ?_ _
  have HS := hH
  clear hH
  go_wp2_with fail
  go_at_call 10
  refine (awake_any _).mono ?_
  rintro e w7 ⟨rfl, hbp⟩
  have HT1 := Lib.hid (HS.1.next hbp)
  have HB1 := Lib.hid (HS.2.trans (hbp.mono HS.2.size))
  clear hbp HS
  have e2 := E2.out
  have e3 := E3.out
  have e5 := E5.out
  have e6 := E6.out
  have d1 := D1.out
  have f0 : 0 < T := by have := F0.out; omega
  have f1 := F1.out
  rw [HA.out] at C2
  have x0 := HT1.out.cell 0 _ (HC.out 0 (by omega))
  have x1 := HT1.out.cell 1 _ (HC.out 1 (by omega))
  have x2 := HT1.out.cell 2 _ (HC.out 2 (by omega))
  have x3 := HT1.out.cell 3 _ (HC.out 3 (by omega))
  have x4 := HT1.out.cell 4 _ (HC.out 4 (by omega))
  have x5 := HT1.out.cell 5 _ (HC.out 5 (by omega))
  have x6 := HT1.out.cell 6 _ (HC.out 6 (by omega))
  have x7 := HT1.out.cell 7 _ (HC.out 7 (by omega))
  have x8 := HT1.out.cell 8 _ (HC.out 8 (by omega))
  have x9 := HT1.out.cell 9 _ (HC.out 9 (by omega))
  have x10 := HT1.out.cell 10 _ (HC.out 10 (by omega))
  have x11 := HT1.out.cell 11 _ (HC.out 11 (by omega))
  have x12 := HT1.out.cell 12 _ (HC.out 12 (by omega))
  have x13 := HT1.out.cell 13 _ (HC.out 13 (by omega))
  have x14 := HT1.out.cell 14 _ (HC.out 14 (by omega))
  have x15 := HT1.out.cell 15 _ (HC.out 15 (by omega))
  go_wp2_with fail
  go_at_call 11
  refine (C2.out _).mono ?_
  rintro e w8 ⟨rfl, hbp⟩
  have HB2 := Lib.hid (HB1.out.trans (hbp.mono HB1.out.size))
  clear hbp x0 x1 x2 x3 x4 x5 x6 x7 x8 x9 x10 x11 x12 x13 x14 x15
  go_wp2_with fail
  go_ret
  exact ⟨rfl, HB2.out⟩
end Fs
end Go.Proofs.Ytmbdhcfhackgfaa
