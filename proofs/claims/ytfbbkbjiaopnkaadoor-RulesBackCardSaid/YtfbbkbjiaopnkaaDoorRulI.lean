/- Layer 12: the contract of parse, way by way. (Written by wip/tools/mkRulG.py.) -/
import Derived.Test.YtfbbkbjiaopnkaaDoorRulG
set_option linter.unusedVariables false
set_option linter.unusedSimpArgs false
namespace Go.Proofs.YtfbbkbjiaopnkaaDoor
open Go.ChangeShapes Go.WideShapes Go.ChangeAt Go.RowKit Go.Mtl Go.Shelf Go.Lib
namespace Ru
open RulM (R wordS known protoP spanS spanP parseW acceptL dropL)
open AdrM (anyL netS)

set_option maxRecDepth 100000 in
set_option maxHeartbeats 2000000 in
theorem parse_dk (v p s sp d dp : List UInt8) (g cap : Nat) (w : World) (he : Env w) (hW : Wds g v p s sp d dp w) (hcap : 6 ≤ cap) (hcap2 : cap ≤ 9223372036854775807) (l2 : s.length ≤ 4096) (l3 : sp.length ≤ 4096) (l4 : d.length ≤ 4096) (l5 : dp.length ≤ 4096) (hA : (v == [97, 99, 99, 101, 112, 116]) = false) (hD : (v == [100, 114, 111, 112]) = true) (hK : protoB p = false) :
    Calls Tryd.prog 13 #[.slice (some ⟨g, 0, none⟩) 6 cap] w fun e w' => e = .returned (ruleV none) ∧ Below w.heap.size w w' := by
  have H0 := Lib.hid (fun W (h : Below w.heap.size w W) => net_list s l2 W (he.ad.below h))
  obtain ⟨x0, y0, z0, e0⟩ := netV_form (netS s)
  rw [e0] at H0
  clear e0
  have H1 := Lib.hid (fun W (h : Below w.heap.size w W) => parseSpan_any sp l3 W (he.ad.below h))
  obtain ⟨x1, y1, z1, e1⟩ := spanV_form (spanP sp)
  rw [e1] at H1
  clear e1
  have H2 := Lib.hid (fun W (h : Below w.heap.size w W) => net_list d l4 W (he.ad.below h))
  obtain ⟨x2, y2, z2, e2⟩ := netV_form (netS d)
  rw [e2] at H2
  clear e2
  have H3 := Lib.hid (fun W (h : Below w.heap.size w W) => parseSpan_any dp l5 W (he.ad.below h))
  obtain ⟨x3, y3, z3, e3⟩ := spanV_form (spanP dp)
  rw [e3] at H3
  clear e3
  have HLK := Lib.hid (fun W b hb => look_list p W b hb)
  rw [hK] at HLK
  generalize protoN p = pn at *
  have HP0 : Hid (PX w g v p s sp d dp (w.alloc (.cells zR 42))) := ⟨TenAt.box w zR, hW.next (below_box _ _)⟩
  have hgl := hW.lt
  clear he l2 l3 l4 l5 hK hW
  have c0 := HP0.out.wds.c0
  have c1 := HP0.out.wds.c1
  go_enter Tryd.func13, Tryd.ntmps13
  go_wp2_with fail
  clear c0
  obtain ⟨W0, hW0⟩ : ∃ U, w.alloc (.cells zR 42) = U := ⟨_, rfl⟩
  unfold zR at hW0
  rw [hW0] at HP0 c1 ⊢
  clear hW0
  refine wp_region_held_drew (S := (fun w' => w'.cell? ⟨g, 1, none⟩ = some (.string ⟨p.toArray⟩) ∧ Hid (PX w g v p s sp d dp w'))) (by kernel_rfl) (⟨c1, HP0.out.next ((Below.refl _ _).drew)⟩) (fun hH => ?_)
  refine wpAnyH_take (i := 1) (oi := ⟨some 24, _, _, _, _, _⟩) (v := ?v1) rfl (by kernel_rfl) (by kernel_rfl) (by kernel_rfl) (fun _ _ _ h => h) (Or.inl ⟨rfl, ?c1⟩) hH ?r1
  case c1 => (intro w' _; go_simp; (try with_reducible rfl))
  try simp only [Act.put, List.setIfInBounds_toArray, List.set_cons_zero, List.set_cons_succ]
  refine wpAnyH_take (i := 2) (oi := ⟨some 25, _, _, _, _, _⟩) (v := ?v2) rfl (by kernel_rfl) (by kernel_rfl) (by kernel_rfl) (fun _ _ _ h => h) (Or.inl ⟨rfl, ?c2⟩) hH ?r2
  case c2 => (intro w' _; go_simp; (try with_reducible rfl))
  try simp only [Act.put, List.setIfInBounds_toArray, List.set_cons_zero, List.set_cons_succ]
  refine wpAnyH_take (i := 3) (oi := ⟨some 26, _, _, _, _, _⟩) (v := ?v3) rfl (by kernel_rfl) (by kernel_rfl) (by kernel_rfl) (fun _ _ _ h => h) (Or.inl ⟨rfl, ?c3⟩) hH ?r3
  case c3 => (intro w' hS; (try dsimp only at hS); go_simp; (try with_reducible rfl))
  try simp only [Act.put, List.setIfInBounds_toArray, List.set_cons_zero, List.set_cons_succ]
  refine wpAnyH_ready (rs := [0]) (by kernel_rfl) (by simp) (AllReadyH.cons rfl (fun K hK => ?_) (AllReadyH.nil))
  go_simp
  go_at_call 26
  refine (protocols_any _).mono ?_
  rintro e w1 ⟨rfl, rfl⟩
  have HM := Lib.hid (heap_alloc_new W0.drew (.map pm 4))
  have HPM : Hid (PX w g v p s sp d dp (W0.drew.alloc (.map pm 4))) := hH.2.out.next (below_box _ _)
  refine hK.out _ _ (⟨HPM.out.wds.c1, HPM⟩) (fun hH => ?_)
  clear hK K
  try simp only [Act.put, List.setIfInBounds_toArray, List.set_cons_zero, List.set_cons_succ]
  refine wpAnyH_ready (rs := [4]) (by kernel_rfl) (by simp) (AllReadyH.cons rfl (fun K hK => ?_) (AllReadyH.nil))
  have hlk := HLK.out ((W0.alloc (.map pm 4)).drew) W0.heap.size (heap_alloc_new W0 _)
  go_simp
  refine hK.out _ _ (hH) (fun hH => ?_)
  clear hK K
  clear hlk
  try simp only [Act.put, List.setIfInBounds_toArray, List.set_cons_zero, List.set_cons_succ]
  refine wpAnyH_take (i := 5) (oi := ⟨some 22, _, _, _, _, _⟩) (v := ?v4) rfl (by kernel_rfl) (by kernel_rfl) (by kernel_rfl) (fun _ _ _ h => h) (Or.inl ⟨rfl, ?c4⟩) hH ?r4
  case c4 => (intro w' _; go_simp; (try with_reducible rfl))
  try simp only [Act.put, List.setIfInBounds_toArray, List.set_cons_zero, List.set_cons_succ]
  refine wpAnyH_take (i := 6) (oi := ⟨some 28, _, _, _, _, _⟩) (v := ?v5) rfl (by kernel_rfl) (by kernel_rfl) (by kernel_rfl) (fun _ _ _ h => h) (Or.inl ⟨rfl, ?c5⟩) hH ?r5
  case c5 => (intro w' _; go_simp; (try with_reducible rfl))
  try simp only [Act.put, List.setIfInBounds_toArray, List.set_cons_zero, List.set_cons_succ]
  refine wpAnyH_take (i := 7) (oi := ⟨some 29, _, _, _, _, _⟩) (v := ?v6) rfl (by kernel_rfl) (by kernel_rfl) (by kernel_rfl) (fun _ _ _ h => h) (Or.inl ⟨rfl, ?c6⟩) hH ?r6
  case c6 => (intro w' _; go_simp; (try with_reducible rfl))
  try simp only [Act.put, List.setIfInBounds_toArray, List.set_cons_zero, List.set_cons_succ]
  refine wpAnyH_take (i := 8) (oi := ⟨some 5, _, _, _, _, _⟩) (v := ?v7) rfl (by kernel_rfl) (by kernel_rfl) (by kernel_rfl) (fun _ _ _ h => h) (Or.inl ⟨rfl, ?c7⟩) hH ?r7
  case c7 => (intro w' _; go_simp; (try with_reducible rfl))
  try simp only [Act.put, List.setIfInBounds_toArray, List.set_cons_zero, List.set_cons_succ]
  refine wpAnyH_take (i := 9) (oi := ⟨some 6, _, _, _, _, _⟩) (v := ?v8) rfl (by kernel_rfl) (by kernel_rfl) (by kernel_rfl) (fun _ _ _ h => h) (Or.inl ⟨rfl, ?c8⟩) hH ?r8
  case c8 => (intro w' _; go_simp; (try with_reducible rfl))
  try simp only [Act.put, List.setIfInBounds_toArray, List.set_cons_zero, List.set_cons_succ]
  refine wpAnyH_done (by kernel_rfl) ?_ _
  have HQ0 := Lib.hid hH.2.out
  clear hH HM HPM HP0
  try clear hlk
  have c2 := HQ0.out.wds.c2
  go_wp2_with fail
  go_at_call 27
  refine (H0.out _ HQ0.out.ten.bel).mono ?_
  rintro e w2 ⟨rfl, hb⟩
  have HQ1 := Lib.hid ((HQ0.out.next hb).next (below_box w2 (.cells #[.int .u32 x0, .int .i64 y0] 37)))
  clear hb c2
  have c3 := HQ1.out.wds.c3
  go_wp2_with fail
  go_at_call 28
  refine (H1.out _ HQ1.out.ten.bel).mono ?_
  rintro e w3 ⟨rfl, hb⟩
  have HQ2 := Lib.hid ((HQ1.out.next hb).next (below_box w3 (.cells #[.int .u16 x1, .int .u16 y1] 40)))
  clear hb c3
  have c4 := HQ2.out.wds.c4
  go_wp2_with fail
  go_at_call 27
  refine (H2.out _ HQ2.out.ten.bel).mono ?_
  rintro e w4 ⟨rfl, hb⟩
  have HQ3 := Lib.hid ((HQ2.out.next hb).next (below_box w4 (.cells #[.int .u32 x2, .int .i64 y2] 37)))
  clear hb c4
  have c5 := HQ3.out.wds.c5
  go_wp2_with fail
  go_at_call 28
  refine (H3.out _ HQ3.out.ten.bel).mono ?_
  rintro e w5 ⟨rfl, hb⟩
  have HQ4 := Lib.hid ((HQ3.out.next hb).next (below_box w5 (.cells #[.int .u16 x3, .int .u16 y3] 40)))
  clear hb c5
  have d0 := HQ4.out.ten.blk.cell 0 _ rfl
  have f0 := HQ4.out.ten.blk.frozen 0
  have d1 := HQ4.out.ten.blk.cell 1 _ rfl
  have f1 := HQ4.out.ten.blk.frozen 1
  have d2 := HQ4.out.ten.blk.cell 2 _ rfl
  have f2 := HQ4.out.ten.blk.frozen 2
  have d3 := HQ4.out.ten.blk.cell 3 _ rfl
  have f3 := HQ4.out.ten.blk.frozen 3
  have d4 := HQ4.out.ten.blk.cell 4 _ rfl
  have f4 := HQ4.out.ten.blk.frozen 4
  have d5 := HQ4.out.ten.blk.cell 5 _ rfl
  have f5 := HQ4.out.ten.blk.frozen 5
  have d6 := HQ4.out.ten.blk.cell 6 _ rfl
  have f6 := HQ4.out.ten.blk.frozen 6
  have d7 := HQ4.out.ten.blk.cell 7 _ rfl
  have f7 := HQ4.out.ten.blk.frozen 7
  have d8 := HQ4.out.ten.blk.cell 8 _ rfl
  have f8 := HQ4.out.ten.blk.frozen 8
  have d9 := HQ4.out.ten.blk.cell 9 _ rfl
  have f9 := HQ4.out.ten.blk.frozen 9
  go_wp2_with fail
  have HY := Lib.hid (HQ4.out.ten.put (.bool false) (.int .u8 0) (.int .u32 0) (.int .i64 0) (.int .u32 0) (.int .i64 0) (.int .u16 0) (.int .u16 0) (.int .u16 0) (.int .u16 0))
  have r0 := HY.out.blk.cell 0 _ rfl
  have r1 := HY.out.blk.cell 1 _ rfl
  have r2 := HY.out.blk.cell 2 _ rfl
  have r3 := HY.out.blk.cell 3 _ rfl
  have r4 := HY.out.blk.cell 4 _ rfl
  have r5 := HY.out.blk.cell 5 _ rfl
  have r6 := HY.out.blk.cell 6 _ rfl
  have r7 := HY.out.blk.cell 7 _ rfl
  have r8 := HY.out.blk.cell 8 _ rfl
  have r9 := HY.out.blk.cell 9 _ rfl
  clear d0 d1 d2 d3 d4 d5 d6 d7 d8 d9 f0 f1 f2 f3 f4 f5 f6 f7 f8 f9
  exact bodyPost_ret (v := ruleV none) (by simp [results, Tryd.results13, go_sem, ruleV, r0, r1, r2, r3, r4, r5, r6, r7, r8, r9]) rfl ⟨rfl, HY.out.bel⟩

set_option maxRecDepth 100000 in
set_option maxHeartbeats 2000000 in
theorem parse_dn1 (v p s sp d dp : List UInt8) (g cap : Nat) (w : World) (he : Env w) (hW : Wds g v p s sp d dp w) (hcap : 6 ≤ cap) (hcap2 : cap ≤ 9223372036854775807) (l2 : s.length ≤ 4096) (l3 : sp.length ≤ 4096) (l4 : d.length ≤ 4096) (l5 : dp.length ≤ 4096) (hA : (v == [97, 99, 99, 101, 112, 116]) = false) (hD : (v == [100, 114, 111, 112]) = true) (hK : protoB p = true) (h0 : netS s = none) :
    Calls Tryd.prog 13 #[.slice (some ⟨g, 0, none⟩) 6 cap] w fun e w' => e = .returned (ruleV none) ∧ Below w.heap.size w w' := by
  have H0 := Lib.hid (fun W (h : Below w.heap.size w W) => net_list s l2 W (he.ad.below h))
  rw [h0, netV_none] at H0
  have H1 := Lib.hid (fun W (h : Below w.heap.size w W) => parseSpan_any sp l3 W (he.ad.below h))
  obtain ⟨x1, y1, z1, e1⟩ := spanV_form (spanP sp)
  rw [e1] at H1
  clear e1
  have H2 := Lib.hid (fun W (h : Below w.heap.size w W) => net_list d l4 W (he.ad.below h))
  obtain ⟨x2, y2, z2, e2⟩ := netV_form (netS d)
  rw [e2] at H2
  clear e2
  have H3 := Lib.hid (fun W (h : Below w.heap.size w W) => parseSpan_any dp l5 W (he.ad.below h))
  obtain ⟨x3, y3, z3, e3⟩ := spanV_form (spanP dp)
  rw [e3] at H3
  clear e3
  have HLK := Lib.hid (fun W b hb => look_list p W b hb)
  rw [hK] at HLK
  generalize protoN p = pn at *
  have HP0 : Hid (PX w g v p s sp d dp (w.alloc (.cells zR 42))) := ⟨TenAt.box w zR, hW.next (below_box _ _)⟩
  have hgl := hW.lt
  clear he l2 l3 l4 l5 h0 hK hW
  have c0 := HP0.out.wds.c0
  have c1 := HP0.out.wds.c1
  go_enter Tryd.func13, Tryd.ntmps13
  go_wp2_with fail
  clear c0
  obtain ⟨W0, hW0⟩ : ∃ U, w.alloc (.cells zR 42) = U := ⟨_, rfl⟩
  unfold zR at hW0
  rw [hW0] at HP0 c1 ⊢
  clear hW0
  refine wp_region_held_drew (S := (fun w' => w'.cell? ⟨g, 1, none⟩ = some (.string ⟨p.toArray⟩) ∧ Hid (PX w g v p s sp d dp w'))) (by kernel_rfl) (⟨c1, HP0.out.next ((Below.refl _ _).drew)⟩) (fun hH => ?_)
  refine wpAnyH_take (i := 1) (oi := ⟨some 24, _, _, _, _, _⟩) (v := ?v1) rfl (by kernel_rfl) (by kernel_rfl) (by kernel_rfl) (fun _ _ _ h => h) (Or.inl ⟨rfl, ?c1⟩) hH ?r1
  case c1 => (intro w' _; go_simp; (try with_reducible rfl))
  try simp only [Act.put, List.setIfInBounds_toArray, List.set_cons_zero, List.set_cons_succ]
  refine wpAnyH_take (i := 2) (oi := ⟨some 25, _, _, _, _, _⟩) (v := ?v2) rfl (by kernel_rfl) (by kernel_rfl) (by kernel_rfl) (fun _ _ _ h => h) (Or.inl ⟨rfl, ?c2⟩) hH ?r2
  case c2 => (intro w' _; go_simp; (try with_reducible rfl))
  try simp only [Act.put, List.setIfInBounds_toArray, List.set_cons_zero, List.set_cons_succ]
  refine wpAnyH_take (i := 3) (oi := ⟨some 26, _, _, _, _, _⟩) (v := ?v3) rfl (by kernel_rfl) (by kernel_rfl) (by kernel_rfl) (fun _ _ _ h => h) (Or.inl ⟨rfl, ?c3⟩) hH ?r3
  case c3 => (intro w' hS; (try dsimp only at hS); go_simp; (try with_reducible rfl))
  try simp only [Act.put, List.setIfInBounds_toArray, List.set_cons_zero, List.set_cons_succ]
  refine wpAnyH_ready (rs := [0]) (by kernel_rfl) (by simp) (AllReadyH.cons rfl (fun K hK => ?_) (AllReadyH.nil))
  go_simp
  go_at_call 26
  refine (protocols_any _).mono ?_
  rintro e w1 ⟨rfl, rfl⟩
  have HM := Lib.hid (heap_alloc_new W0.drew (.map pm 4))
  have HPM : Hid (PX w g v p s sp d dp (W0.drew.alloc (.map pm 4))) := hH.2.out.next (below_box _ _)
  refine hK.out _ _ (⟨HPM.out.wds.c1, HPM⟩) (fun hH => ?_)
  clear hK K
  try simp only [Act.put, List.setIfInBounds_toArray, List.set_cons_zero, List.set_cons_succ]
  refine wpAnyH_ready (rs := [4]) (by kernel_rfl) (by simp) (AllReadyH.cons rfl (fun K hK => ?_) (AllReadyH.nil))
  have hlk := HLK.out ((W0.alloc (.map pm 4)).drew) W0.heap.size (heap_alloc_new W0 _)
  go_simp
  refine hK.out _ _ (hH) (fun hH => ?_)
  clear hK K
  clear hlk
  try simp only [Act.put, List.setIfInBounds_toArray, List.set_cons_zero, List.set_cons_succ]
  refine wpAnyH_take (i := 5) (oi := ⟨some 22, _, _, _, _, _⟩) (v := ?v4) rfl (by kernel_rfl) (by kernel_rfl) (by kernel_rfl) (fun _ _ _ h => h) (Or.inl ⟨rfl, ?c4⟩) hH ?r4
  case c4 => (intro w' _; go_simp; (try with_reducible rfl))
  try simp only [Act.put, List.setIfInBounds_toArray, List.set_cons_zero, List.set_cons_succ]
  refine wpAnyH_take (i := 6) (oi := ⟨some 28, _, _, _, _, _⟩) (v := ?v5) rfl (by kernel_rfl) (by kernel_rfl) (by kernel_rfl) (fun _ _ _ h => h) (Or.inl ⟨rfl, ?c5⟩) hH ?r5
  case c5 => (intro w' _; go_simp; (try with_reducible rfl))
  try simp only [Act.put, List.setIfInBounds_toArray, List.set_cons_zero, List.set_cons_succ]
  refine wpAnyH_take (i := 7) (oi := ⟨some 29, _, _, _, _, _⟩) (v := ?v6) rfl (by kernel_rfl) (by kernel_rfl) (by kernel_rfl) (fun _ _ _ h => h) (Or.inl ⟨rfl, ?c6⟩) hH ?r6
  case c6 => (intro w' _; go_simp; (try with_reducible rfl))
  try simp only [Act.put, List.setIfInBounds_toArray, List.set_cons_zero, List.set_cons_succ]
  refine wpAnyH_take (i := 8) (oi := ⟨some 5, _, _, _, _, _⟩) (v := ?v7) rfl (by kernel_rfl) (by kernel_rfl) (by kernel_rfl) (fun _ _ _ h => h) (Or.inl ⟨rfl, ?c7⟩) hH ?r7
  case c7 => (intro w' _; go_simp; (try with_reducible rfl))
  try simp only [Act.put, List.setIfInBounds_toArray, List.set_cons_zero, List.set_cons_succ]
  refine wpAnyH_take (i := 9) (oi := ⟨some 6, _, _, _, _, _⟩) (v := ?v8) rfl (by kernel_rfl) (by kernel_rfl) (by kernel_rfl) (fun _ _ _ h => h) (Or.inl ⟨rfl, ?c8⟩) hH ?r8
  case c8 => (intro w' _; go_simp; (try with_reducible rfl))
  try simp only [Act.put, List.setIfInBounds_toArray, List.set_cons_zero, List.set_cons_succ]
  refine wpAnyH_done (by kernel_rfl) ?_ _
  have HQ0 := Lib.hid hH.2.out
  clear hH HM HPM HP0
  try clear hlk
  have c2 := HQ0.out.wds.c2
  go_wp2_with fail
  go_at_call 27
  refine (H0.out _ HQ0.out.ten.bel).mono ?_
  rintro e w2 ⟨rfl, hb⟩
  have HQ1 := Lib.hid ((HQ0.out.next hb).next (below_box w2 (.cells #[.int .u32 0, .int .i64 0] 37)))
  clear hb c2
  have c3 := HQ1.out.wds.c3
  go_wp2_with fail
  go_at_call 28
  refine (H1.out _ HQ1.out.ten.bel).mono ?_
  rintro e w3 ⟨rfl, hb⟩
  have HQ2 := Lib.hid ((HQ1.out.next hb).next (below_box w3 (.cells #[.int .u16 x1, .int .u16 y1] 40)))
  clear hb c3
  have c4 := HQ2.out.wds.c4
  go_wp2_with fail
  go_at_call 27
  refine (H2.out _ HQ2.out.ten.bel).mono ?_
  rintro e w4 ⟨rfl, hb⟩
  have HQ3 := Lib.hid ((HQ2.out.next hb).next (below_box w4 (.cells #[.int .u32 x2, .int .i64 y2] 37)))
  clear hb c4
  have c5 := HQ3.out.wds.c5
  go_wp2_with fail
  go_at_call 28
  refine (H3.out _ HQ3.out.ten.bel).mono ?_
  rintro e w5 ⟨rfl, hb⟩
  have HQ4 := Lib.hid ((HQ3.out.next hb).next (below_box w5 (.cells #[.int .u16 x3, .int .u16 y3] 40)))
  clear hb c5
  have d0 := HQ4.out.ten.blk.cell 0 _ rfl
  have f0 := HQ4.out.ten.blk.frozen 0
  have d1 := HQ4.out.ten.blk.cell 1 _ rfl
  have f1 := HQ4.out.ten.blk.frozen 1
  have d2 := HQ4.out.ten.blk.cell 2 _ rfl
  have f2 := HQ4.out.ten.blk.frozen 2
  have d3 := HQ4.out.ten.blk.cell 3 _ rfl
  have f3 := HQ4.out.ten.blk.frozen 3
  have d4 := HQ4.out.ten.blk.cell 4 _ rfl
  have f4 := HQ4.out.ten.blk.frozen 4
  have d5 := HQ4.out.ten.blk.cell 5 _ rfl
  have f5 := HQ4.out.ten.blk.frozen 5
  have d6 := HQ4.out.ten.blk.cell 6 _ rfl
  have f6 := HQ4.out.ten.blk.frozen 6
  have d7 := HQ4.out.ten.blk.cell 7 _ rfl
  have f7 := HQ4.out.ten.blk.frozen 7
  have d8 := HQ4.out.ten.blk.cell 8 _ rfl
  have f8 := HQ4.out.ten.blk.frozen 8
  have d9 := HQ4.out.ten.blk.cell 9 _ rfl
  have f9 := HQ4.out.ten.blk.frozen 9
  go_wp2_with fail
  have HY := Lib.hid (HQ4.out.ten.put (.bool false) (.int .u8 0) (.int .u32 0) (.int .i64 0) (.int .u32 0) (.int .i64 0) (.int .u16 0) (.int .u16 0) (.int .u16 0) (.int .u16 0))
  have r0 := HY.out.blk.cell 0 _ rfl
  have r1 := HY.out.blk.cell 1 _ rfl
  have r2 := HY.out.blk.cell 2 _ rfl
  have r3 := HY.out.blk.cell 3 _ rfl
  have r4 := HY.out.blk.cell 4 _ rfl
  have r5 := HY.out.blk.cell 5 _ rfl
  have r6 := HY.out.blk.cell 6 _ rfl
  have r7 := HY.out.blk.cell 7 _ rfl
  have r8 := HY.out.blk.cell 8 _ rfl
  have r9 := HY.out.blk.cell 9 _ rfl
  clear d0 d1 d2 d3 d4 d5 d6 d7 d8 d9 f0 f1 f2 f3 f4 f5 f6 f7 f8 f9
  exact bodyPost_ret (v := ruleV none) (by simp [results, Tryd.results13, go_sem, ruleV, r0, r1, r2, r3, r4, r5, r6, r7, r8, r9]) rfl ⟨rfl, HY.out.bel⟩

set_option maxRecDepth 100000 in
set_option maxHeartbeats 2000000 in
theorem parse_dn2 (v p s sp d dp : List UInt8) (g cap : Nat) (w : World) (he : Env w) (hW : Wds g v p s sp d dp w) (hcap : 6 ≤ cap) (hcap2 : cap ≤ 9223372036854775807) (l2 : s.length ≤ 4096) (l3 : sp.length ≤ 4096) (l4 : d.length ≤ 4096) (l5 : dp.length ≤ 4096) (hA : (v == [97, 99, 99, 101, 112, 116]) = false) (hD : (v == [100, 114, 111, 112]) = true) (hK : protoB p = true) (x0 y0 : Nat) (h0 : netS s = some (x0, y0)) (h2 : netS d = none) :
    Calls Tryd.prog 13 #[.slice (some ⟨g, 0, none⟩) 6 cap] w fun e w' => e = .returned (ruleV none) ∧ Below w.heap.size w w' := by
  have H0 := Lib.hid (fun W (h : Below w.heap.size w W) => net_list s l2 W (he.ad.below h))
  rw [h0, netV_some] at H0
  have H1 := Lib.hid (fun W (h : Below w.heap.size w W) => parseSpan_any sp l3 W (he.ad.below h))
  obtain ⟨x1, y1, z1, e1⟩ := spanV_form (spanP sp)
  rw [e1] at H1
  clear e1
  have H2 := Lib.hid (fun W (h : Below w.heap.size w W) => net_list d l4 W (he.ad.below h))
  rw [h2, netV_none] at H2
  have H3 := Lib.hid (fun W (h : Below w.heap.size w W) => parseSpan_any dp l5 W (he.ad.below h))
  obtain ⟨x3, y3, z3, e3⟩ := spanV_form (spanP dp)
  rw [e3] at H3
  clear e3
  have HLK := Lib.hid (fun W b hb => look_list p W b hb)
  rw [hK] at HLK
  generalize protoN p = pn at *
  have HP0 : Hid (PX w g v p s sp d dp (w.alloc (.cells zR 42))) := ⟨TenAt.box w zR, hW.next (below_box _ _)⟩
  have hgl := hW.lt
  clear he l2 l3 l4 l5 h0 h2 hK hW
  have c0 := HP0.out.wds.c0
  have c1 := HP0.out.wds.c1
  go_enter Tryd.func13, Tryd.ntmps13
  go_wp2_with fail
  clear c0
  obtain ⟨W0, hW0⟩ : ∃ U, w.alloc (.cells zR 42) = U := ⟨_, rfl⟩
  unfold zR at hW0
  rw [hW0] at HP0 c1 ⊢
  clear hW0
  refine wp_region_held_drew (S := (fun w' => w'.cell? ⟨g, 1, none⟩ = some (.string ⟨p.toArray⟩) ∧ Hid (PX w g v p s sp d dp w'))) (by kernel_rfl) (⟨c1, HP0.out.next ((Below.refl _ _).drew)⟩) (fun hH => ?_)
  refine wpAnyH_take (i := 1) (oi := ⟨some 24, _, _, _, _, _⟩) (v := ?v1) rfl (by kernel_rfl) (by kernel_rfl) (by kernel_rfl) (fun _ _ _ h => h) (Or.inl ⟨rfl, ?c1⟩) hH ?r1
  case c1 => (intro w' _; go_simp; (try with_reducible rfl))
  try simp only [Act.put, List.setIfInBounds_toArray, List.set_cons_zero, List.set_cons_succ]
  refine wpAnyH_take (i := 2) (oi := ⟨some 25, _, _, _, _, _⟩) (v := ?v2) rfl (by kernel_rfl) (by kernel_rfl) (by kernel_rfl) (fun _ _ _ h => h) (Or.inl ⟨rfl, ?c2⟩) hH ?r2
  case c2 => (intro w' _; go_simp; (try with_reducible rfl))
  try simp only [Act.put, List.setIfInBounds_toArray, List.set_cons_zero, List.set_cons_succ]
  refine wpAnyH_take (i := 3) (oi := ⟨some 26, _, _, _, _, _⟩) (v := ?v3) rfl (by kernel_rfl) (by kernel_rfl) (by kernel_rfl) (fun _ _ _ h => h) (Or.inl ⟨rfl, ?c3⟩) hH ?r3
  case c3 => (intro w' hS; (try dsimp only at hS); go_simp; (try with_reducible rfl))
  try simp only [Act.put, List.setIfInBounds_toArray, List.set_cons_zero, List.set_cons_succ]
  refine wpAnyH_ready (rs := [0]) (by kernel_rfl) (by simp) (AllReadyH.cons rfl (fun K hK => ?_) (AllReadyH.nil))
  go_simp
  go_at_call 26
  refine (protocols_any _).mono ?_
  rintro e w1 ⟨rfl, rfl⟩
  have HM := Lib.hid (heap_alloc_new W0.drew (.map pm 4))
  have HPM : Hid (PX w g v p s sp d dp (W0.drew.alloc (.map pm 4))) := hH.2.out.next (below_box _ _)
  refine hK.out _ _ (⟨HPM.out.wds.c1, HPM⟩) (fun hH => ?_)
  clear hK K
  try simp only [Act.put, List.setIfInBounds_toArray, List.set_cons_zero, List.set_cons_succ]
  refine wpAnyH_ready (rs := [4]) (by kernel_rfl) (by simp) (AllReadyH.cons rfl (fun K hK => ?_) (AllReadyH.nil))
  have hlk := HLK.out ((W0.alloc (.map pm 4)).drew) W0.heap.size (heap_alloc_new W0 _)
  go_simp
  refine hK.out _ _ (hH) (fun hH => ?_)
  clear hK K
  clear hlk
  try simp only [Act.put, List.setIfInBounds_toArray, List.set_cons_zero, List.set_cons_succ]
  refine wpAnyH_take (i := 5) (oi := ⟨some 22, _, _, _, _, _⟩) (v := ?v4) rfl (by kernel_rfl) (by kernel_rfl) (by kernel_rfl) (fun _ _ _ h => h) (Or.inl ⟨rfl, ?c4⟩) hH ?r4
  case c4 => (intro w' _; go_simp; (try with_reducible rfl))
  try simp only [Act.put, List.setIfInBounds_toArray, List.set_cons_zero, List.set_cons_succ]
  refine wpAnyH_take (i := 6) (oi := ⟨some 28, _, _, _, _, _⟩) (v := ?v5) rfl (by kernel_rfl) (by kernel_rfl) (by kernel_rfl) (fun _ _ _ h => h) (Or.inl ⟨rfl, ?c5⟩) hH ?r5
  case c5 => (intro w' _; go_simp; (try with_reducible rfl))
  try simp only [Act.put, List.setIfInBounds_toArray, List.set_cons_zero, List.set_cons_succ]
  refine wpAnyH_take (i := 7) (oi := ⟨some 29, _, _, _, _, _⟩) (v := ?v6) rfl (by kernel_rfl) (by kernel_rfl) (by kernel_rfl) (fun _ _ _ h => h) (Or.inl ⟨rfl, ?c6⟩) hH ?r6
  case c6 => (intro w' _; go_simp; (try with_reducible rfl))
  try simp only [Act.put, List.setIfInBounds_toArray, List.set_cons_zero, List.set_cons_succ]
  refine wpAnyH_take (i := 8) (oi := ⟨some 5, _, _, _, _, _⟩) (v := ?v7) rfl (by kernel_rfl) (by kernel_rfl) (by kernel_rfl) (fun _ _ _ h => h) (Or.inl ⟨rfl, ?c7⟩) hH ?r7
  case c7 => (intro w' _; go_simp; (try with_reducible rfl))
  try simp only [Act.put, List.setIfInBounds_toArray, List.set_cons_zero, List.set_cons_succ]
  refine wpAnyH_take (i := 9) (oi := ⟨some 6, _, _, _, _, _⟩) (v := ?v8) rfl (by kernel_rfl) (by kernel_rfl) (by kernel_rfl) (fun _ _ _ h => h) (Or.inl ⟨rfl, ?c8⟩) hH ?r8
  case c8 => (intro w' _; go_simp; (try with_reducible rfl))
  try simp only [Act.put, List.setIfInBounds_toArray, List.set_cons_zero, List.set_cons_succ]
  refine wpAnyH_done (by kernel_rfl) ?_ _
  have HQ0 := Lib.hid hH.2.out
  clear hH HM HPM HP0
  try clear hlk
  have c2 := HQ0.out.wds.c2
  go_wp2_with fail
  go_at_call 27
  refine (H0.out _ HQ0.out.ten.bel).mono ?_
  rintro e w2 ⟨rfl, hb⟩
  have HQ1 := Lib.hid ((HQ0.out.next hb).next (below_box w2 (.cells #[.int .u32 (x0 : Int), .int .i64 (y0 : Int)] 37)))
  clear hb c2
  have c3 := HQ1.out.wds.c3
  go_wp2_with fail
  go_at_call 28
  refine (H1.out _ HQ1.out.ten.bel).mono ?_
  rintro e w3 ⟨rfl, hb⟩
  have HQ2 := Lib.hid ((HQ1.out.next hb).next (below_box w3 (.cells #[.int .u16 x1, .int .u16 y1] 40)))
  clear hb c3
  have c4 := HQ2.out.wds.c4
  go_wp2_with fail
  go_at_call 27
  refine (H2.out _ HQ2.out.ten.bel).mono ?_
  rintro e w4 ⟨rfl, hb⟩
  have HQ3 := Lib.hid ((HQ2.out.next hb).next (below_box w4 (.cells #[.int .u32 0, .int .i64 0] 37)))
  clear hb c4
  have c5 := HQ3.out.wds.c5
  go_wp2_with fail
  go_at_call 28
  refine (H3.out _ HQ3.out.ten.bel).mono ?_
  rintro e w5 ⟨rfl, hb⟩
  have HQ4 := Lib.hid ((HQ3.out.next hb).next (below_box w5 (.cells #[.int .u16 x3, .int .u16 y3] 40)))
  clear hb c5
  have d0 := HQ4.out.ten.blk.cell 0 _ rfl
  have f0 := HQ4.out.ten.blk.frozen 0
  have d1 := HQ4.out.ten.blk.cell 1 _ rfl
  have f1 := HQ4.out.ten.blk.frozen 1
  have d2 := HQ4.out.ten.blk.cell 2 _ rfl
  have f2 := HQ4.out.ten.blk.frozen 2
  have d3 := HQ4.out.ten.blk.cell 3 _ rfl
  have f3 := HQ4.out.ten.blk.frozen 3
  have d4 := HQ4.out.ten.blk.cell 4 _ rfl
  have f4 := HQ4.out.ten.blk.frozen 4
  have d5 := HQ4.out.ten.blk.cell 5 _ rfl
  have f5 := HQ4.out.ten.blk.frozen 5
  have d6 := HQ4.out.ten.blk.cell 6 _ rfl
  have f6 := HQ4.out.ten.blk.frozen 6
  have d7 := HQ4.out.ten.blk.cell 7 _ rfl
  have f7 := HQ4.out.ten.blk.frozen 7
  have d8 := HQ4.out.ten.blk.cell 8 _ rfl
  have f8 := HQ4.out.ten.blk.frozen 8
  have d9 := HQ4.out.ten.blk.cell 9 _ rfl
  have f9 := HQ4.out.ten.blk.frozen 9
  go_wp2_with fail
  have HY := Lib.hid (HQ4.out.ten.put (.bool false) (.int .u8 0) (.int .u32 0) (.int .i64 0) (.int .u32 0) (.int .i64 0) (.int .u16 0) (.int .u16 0) (.int .u16 0) (.int .u16 0))
  have r0 := HY.out.blk.cell 0 _ rfl
  have r1 := HY.out.blk.cell 1 _ rfl
  have r2 := HY.out.blk.cell 2 _ rfl
  have r3 := HY.out.blk.cell 3 _ rfl
  have r4 := HY.out.blk.cell 4 _ rfl
  have r5 := HY.out.blk.cell 5 _ rfl
  have r6 := HY.out.blk.cell 6 _ rfl
  have r7 := HY.out.blk.cell 7 _ rfl
  have r8 := HY.out.blk.cell 8 _ rfl
  have r9 := HY.out.blk.cell 9 _ rfl
  clear d0 d1 d2 d3 d4 d5 d6 d7 d8 d9 f0 f1 f2 f3 f4 f5 f6 f7 f8 f9
  exact bodyPost_ret (v := ruleV none) (by simp [results, Tryd.results13, go_sem, ruleV, r0, r1, r2, r3, r4, r5, r6, r7, r8, r9]) rfl ⟨rfl, HY.out.bel⟩

set_option maxRecDepth 100000 in
set_option maxHeartbeats 2000000 in
theorem parse_ds1 (v p s sp d dp : List UInt8) (g cap : Nat) (w : World) (he : Env w) (hW : Wds g v p s sp d dp w) (hcap : 6 ≤ cap) (hcap2 : cap ≤ 9223372036854775807) (l2 : s.length ≤ 4096) (l3 : sp.length ≤ 4096) (l4 : d.length ≤ 4096) (l5 : dp.length ≤ 4096) (hA : (v == [97, 99, 99, 101, 112, 116]) = false) (hD : (v == [100, 114, 111, 112]) = true) (hK : protoB p = true) (x0 y0 : Nat) (h0 : netS s = some (x0, y0)) (h1 : spanP sp = none) (x2 y2 : Nat) (h2 : netS d = some (x2, y2)) :
    Calls Tryd.prog 13 #[.slice (some ⟨g, 0, none⟩) 6 cap] w fun e w' => e = .returned (ruleV none) ∧ Below w.heap.size w w' := by
  have H0 := Lib.hid (fun W (h : Below w.heap.size w W) => net_list s l2 W (he.ad.below h))
  rw [h0, netV_some] at H0
  have H1 := Lib.hid (fun W (h : Below w.heap.size w W) => parseSpan_any sp l3 W (he.ad.below h))
  rw [h1, spanV_none] at H1
  have H2 := Lib.hid (fun W (h : Below w.heap.size w W) => net_list d l4 W (he.ad.below h))
  rw [h2, netV_some] at H2
  have H3 := Lib.hid (fun W (h : Below w.heap.size w W) => parseSpan_any dp l5 W (he.ad.below h))
  obtain ⟨x3, y3, z3, e3⟩ := spanV_form (spanP dp)
  rw [e3] at H3
  clear e3
  have HLK := Lib.hid (fun W b hb => look_list p W b hb)
  rw [hK] at HLK
  generalize protoN p = pn at *
  have HP0 : Hid (PX w g v p s sp d dp (w.alloc (.cells zR 42))) := ⟨TenAt.box w zR, hW.next (below_box _ _)⟩
  have hgl := hW.lt
  clear he l2 l3 l4 l5 h0 h1 h2 hK hW
  have c0 := HP0.out.wds.c0
  have c1 := HP0.out.wds.c1
  go_enter Tryd.func13, Tryd.ntmps13
  go_wp2_with fail
  clear c0
  obtain ⟨W0, hW0⟩ : ∃ U, w.alloc (.cells zR 42) = U := ⟨_, rfl⟩
  unfold zR at hW0
  rw [hW0] at HP0 c1 ⊢
  clear hW0
  refine wp_region_held_drew (S := (fun w' => w'.cell? ⟨g, 1, none⟩ = some (.string ⟨p.toArray⟩) ∧ Hid (PX w g v p s sp d dp w'))) (by kernel_rfl) (⟨c1, HP0.out.next ((Below.refl _ _).drew)⟩) (fun hH => ?_)
  refine wpAnyH_take (i := 1) (oi := ⟨some 24, _, _, _, _, _⟩) (v := ?v1) rfl (by kernel_rfl) (by kernel_rfl) (by kernel_rfl) (fun _ _ _ h => h) (Or.inl ⟨rfl, ?c1⟩) hH ?r1
  case c1 => (intro w' _; go_simp; (try with_reducible rfl))
  try simp only [Act.put, List.setIfInBounds_toArray, List.set_cons_zero, List.set_cons_succ]
  refine wpAnyH_take (i := 2) (oi := ⟨some 25, _, _, _, _, _⟩) (v := ?v2) rfl (by kernel_rfl) (by kernel_rfl) (by kernel_rfl) (fun _ _ _ h => h) (Or.inl ⟨rfl, ?c2⟩) hH ?r2
  case c2 => (intro w' _; go_simp; (try with_reducible rfl))
  try simp only [Act.put, List.setIfInBounds_toArray, List.set_cons_zero, List.set_cons_succ]
  refine wpAnyH_take (i := 3) (oi := ⟨some 26, _, _, _, _, _⟩) (v := ?v3) rfl (by kernel_rfl) (by kernel_rfl) (by kernel_rfl) (fun _ _ _ h => h) (Or.inl ⟨rfl, ?c3⟩) hH ?r3
  case c3 => (intro w' hS; (try dsimp only at hS); go_simp; (try with_reducible rfl))
  try simp only [Act.put, List.setIfInBounds_toArray, List.set_cons_zero, List.set_cons_succ]
  refine wpAnyH_ready (rs := [0]) (by kernel_rfl) (by simp) (AllReadyH.cons rfl (fun K hK => ?_) (AllReadyH.nil))
  go_simp
  go_at_call 26
  refine (protocols_any _).mono ?_
  rintro e w1 ⟨rfl, rfl⟩
  have HM := Lib.hid (heap_alloc_new W0.drew (.map pm 4))
  have HPM : Hid (PX w g v p s sp d dp (W0.drew.alloc (.map pm 4))) := hH.2.out.next (below_box _ _)
  refine hK.out _ _ (⟨HPM.out.wds.c1, HPM⟩) (fun hH => ?_)
  clear hK K
  try simp only [Act.put, List.setIfInBounds_toArray, List.set_cons_zero, List.set_cons_succ]
  refine wpAnyH_ready (rs := [4]) (by kernel_rfl) (by simp) (AllReadyH.cons rfl (fun K hK => ?_) (AllReadyH.nil))
  have hlk := HLK.out ((W0.alloc (.map pm 4)).drew) W0.heap.size (heap_alloc_new W0 _)
  go_simp
  refine hK.out _ _ (hH) (fun hH => ?_)
  clear hK K
  clear hlk
  try simp only [Act.put, List.setIfInBounds_toArray, List.set_cons_zero, List.set_cons_succ]
  refine wpAnyH_take (i := 5) (oi := ⟨some 22, _, _, _, _, _⟩) (v := ?v4) rfl (by kernel_rfl) (by kernel_rfl) (by kernel_rfl) (fun _ _ _ h => h) (Or.inl ⟨rfl, ?c4⟩) hH ?r4
  case c4 => (intro w' _; go_simp; (try with_reducible rfl))
  try simp only [Act.put, List.setIfInBounds_toArray, List.set_cons_zero, List.set_cons_succ]
  refine wpAnyH_take (i := 6) (oi := ⟨some 28, _, _, _, _, _⟩) (v := ?v5) rfl (by kernel_rfl) (by kernel_rfl) (by kernel_rfl) (fun _ _ _ h => h) (Or.inl ⟨rfl, ?c5⟩) hH ?r5
  case c5 => (intro w' _; go_simp; (try with_reducible rfl))
  try simp only [Act.put, List.setIfInBounds_toArray, List.set_cons_zero, List.set_cons_succ]
  refine wpAnyH_take (i := 7) (oi := ⟨some 29, _, _, _, _, _⟩) (v := ?v6) rfl (by kernel_rfl) (by kernel_rfl) (by kernel_rfl) (fun _ _ _ h => h) (Or.inl ⟨rfl, ?c6⟩) hH ?r6
  case c6 => (intro w' _; go_simp; (try with_reducible rfl))
  try simp only [Act.put, List.setIfInBounds_toArray, List.set_cons_zero, List.set_cons_succ]
  refine wpAnyH_take (i := 8) (oi := ⟨some 5, _, _, _, _, _⟩) (v := ?v7) rfl (by kernel_rfl) (by kernel_rfl) (by kernel_rfl) (fun _ _ _ h => h) (Or.inl ⟨rfl, ?c7⟩) hH ?r7
  case c7 => (intro w' _; go_simp; (try with_reducible rfl))
  try simp only [Act.put, List.setIfInBounds_toArray, List.set_cons_zero, List.set_cons_succ]
  refine wpAnyH_take (i := 9) (oi := ⟨some 6, _, _, _, _, _⟩) (v := ?v8) rfl (by kernel_rfl) (by kernel_rfl) (by kernel_rfl) (fun _ _ _ h => h) (Or.inl ⟨rfl, ?c8⟩) hH ?r8
  case c8 => (intro w' _; go_simp; (try with_reducible rfl))
  try simp only [Act.put, List.setIfInBounds_toArray, List.set_cons_zero, List.set_cons_succ]
  refine wpAnyH_done (by kernel_rfl) ?_ _
  have HQ0 := Lib.hid hH.2.out
  clear hH HM HPM HP0
  try clear hlk
  have c2 := HQ0.out.wds.c2
  go_wp2_with fail
  go_at_call 27
  refine (H0.out _ HQ0.out.ten.bel).mono ?_
  rintro e w2 ⟨rfl, hb⟩
  have HQ1 := Lib.hid ((HQ0.out.next hb).next (below_box w2 (.cells #[.int .u32 (x0 : Int), .int .i64 (y0 : Int)] 37)))
  clear hb c2
  have c3 := HQ1.out.wds.c3
  go_wp2_with fail
  go_at_call 28
  refine (H1.out _ HQ1.out.ten.bel).mono ?_
  rintro e w3 ⟨rfl, hb⟩
  have HQ2 := Lib.hid ((HQ1.out.next hb).next (below_box w3 (.cells #[.int .u16 0, .int .u16 0] 40)))
  clear hb c3
  have c4 := HQ2.out.wds.c4
  go_wp2_with fail
  go_at_call 27
  refine (H2.out _ HQ2.out.ten.bel).mono ?_
  rintro e w4 ⟨rfl, hb⟩
  have HQ3 := Lib.hid ((HQ2.out.next hb).next (below_box w4 (.cells #[.int .u32 (x2 : Int), .int .i64 (y2 : Int)] 37)))
  clear hb c4
  have c5 := HQ3.out.wds.c5
  go_wp2_with fail
  go_at_call 28
  refine (H3.out _ HQ3.out.ten.bel).mono ?_
  rintro e w5 ⟨rfl, hb⟩
  have HQ4 := Lib.hid ((HQ3.out.next hb).next (below_box w5 (.cells #[.int .u16 x3, .int .u16 y3] 40)))
  clear hb c5
  have d0 := HQ4.out.ten.blk.cell 0 _ rfl
  have f0 := HQ4.out.ten.blk.frozen 0
  have d1 := HQ4.out.ten.blk.cell 1 _ rfl
  have f1 := HQ4.out.ten.blk.frozen 1
  have d2 := HQ4.out.ten.blk.cell 2 _ rfl
  have f2 := HQ4.out.ten.blk.frozen 2
  have d3 := HQ4.out.ten.blk.cell 3 _ rfl
  have f3 := HQ4.out.ten.blk.frozen 3
  have d4 := HQ4.out.ten.blk.cell 4 _ rfl
  have f4 := HQ4.out.ten.blk.frozen 4
  have d5 := HQ4.out.ten.blk.cell 5 _ rfl
  have f5 := HQ4.out.ten.blk.frozen 5
  have d6 := HQ4.out.ten.blk.cell 6 _ rfl
  have f6 := HQ4.out.ten.blk.frozen 6
  have d7 := HQ4.out.ten.blk.cell 7 _ rfl
  have f7 := HQ4.out.ten.blk.frozen 7
  have d8 := HQ4.out.ten.blk.cell 8 _ rfl
  have f8 := HQ4.out.ten.blk.frozen 8
  have d9 := HQ4.out.ten.blk.cell 9 _ rfl
  have f9 := HQ4.out.ten.blk.frozen 9
  go_wp2_with fail
  have HY := Lib.hid (HQ4.out.ten.put (.bool false) (.int .u8 0) (.int .u32 0) (.int .i64 0) (.int .u32 0) (.int .i64 0) (.int .u16 0) (.int .u16 0) (.int .u16 0) (.int .u16 0))
  have r0 := HY.out.blk.cell 0 _ rfl
  have r1 := HY.out.blk.cell 1 _ rfl
  have r2 := HY.out.blk.cell 2 _ rfl
  have r3 := HY.out.blk.cell 3 _ rfl
  have r4 := HY.out.blk.cell 4 _ rfl
  have r5 := HY.out.blk.cell 5 _ rfl
  have r6 := HY.out.blk.cell 6 _ rfl
  have r7 := HY.out.blk.cell 7 _ rfl
  have r8 := HY.out.blk.cell 8 _ rfl
  have r9 := HY.out.blk.cell 9 _ rfl
  clear d0 d1 d2 d3 d4 d5 d6 d7 d8 d9 f0 f1 f2 f3 f4 f5 f6 f7 f8 f9
  exact bodyPost_ret (v := ruleV none) (by simp [results, Tryd.results13, go_sem, ruleV, r0, r1, r2, r3, r4, r5, r6, r7, r8, r9]) rfl ⟨rfl, HY.out.bel⟩

set_option maxRecDepth 100000 in
set_option maxHeartbeats 2000000 in
theorem parse_ds2 (v p s sp d dp : List UInt8) (g cap : Nat) (w : World) (he : Env w) (hW : Wds g v p s sp d dp w) (hcap : 6 ≤ cap) (hcap2 : cap ≤ 9223372036854775807) (l2 : s.length ≤ 4096) (l3 : sp.length ≤ 4096) (l4 : d.length ≤ 4096) (l5 : dp.length ≤ 4096) (hA : (v == [97, 99, 99, 101, 112, 116]) = false) (hD : (v == [100, 114, 111, 112]) = true) (hK : protoB p = true) (x0 y0 : Nat) (h0 : netS s = some (x0, y0)) (x1 y1 : Nat) (h1 : spanP sp = some (x1, y1)) (x2 y2 : Nat) (h2 : netS d = some (x2, y2)) (h3 : spanP dp = none) :
    Calls Tryd.prog 13 #[.slice (some ⟨g, 0, none⟩) 6 cap] w fun e w' => e = .returned (ruleV none) ∧ Below w.heap.size w w' := by
  have H0 := Lib.hid (fun W (h : Below w.heap.size w W) => net_list s l2 W (he.ad.below h))
  rw [h0, netV_some] at H0
  have H1 := Lib.hid (fun W (h : Below w.heap.size w W) => parseSpan_any sp l3 W (he.ad.below h))
  rw [h1, spanV_some] at H1
  have H2 := Lib.hid (fun W (h : Below w.heap.size w W) => net_list d l4 W (he.ad.below h))
  rw [h2, netV_some] at H2
  have H3 := Lib.hid (fun W (h : Below w.heap.size w W) => parseSpan_any dp l5 W (he.ad.below h))
  rw [h3, spanV_none] at H3
  have HLK := Lib.hid (fun W b hb => look_list p W b hb)
  rw [hK] at HLK
  generalize protoN p = pn at *
  have HP0 : Hid (PX w g v p s sp d dp (w.alloc (.cells zR 42))) := ⟨TenAt.box w zR, hW.next (below_box _ _)⟩
  have hgl := hW.lt
  clear he l2 l3 l4 l5 h0 h1 h2 h3 hK hW
  have c0 := HP0.out.wds.c0
  have c1 := HP0.out.wds.c1
  go_enter Tryd.func13, Tryd.ntmps13
  go_wp2_with fail
  clear c0
  obtain ⟨W0, hW0⟩ : ∃ U, w.alloc (.cells zR 42) = U := ⟨_, rfl⟩
  unfold zR at hW0
  rw [hW0] at HP0 c1 ⊢
  clear hW0
  refine wp_region_held_drew (S := (fun w' => w'.cell? ⟨g, 1, none⟩ = some (.string ⟨p.toArray⟩) ∧ Hid (PX w g v p s sp d dp w'))) (by kernel_rfl) (⟨c1, HP0.out.next ((Below.refl _ _).drew)⟩) (fun hH => ?_)
  refine wpAnyH_take (i := 1) (oi := ⟨some 24, _, _, _, _, _⟩) (v := ?v1) rfl (by kernel_rfl) (by kernel_rfl) (by kernel_rfl) (fun _ _ _ h => h) (Or.inl ⟨rfl, ?c1⟩) hH ?r1
  case c1 => (intro w' _; go_simp; (try with_reducible rfl))
  try simp only [Act.put, List.setIfInBounds_toArray, List.set_cons_zero, List.set_cons_succ]
  refine wpAnyH_take (i := 2) (oi := ⟨some 25, _, _, _, _, _⟩) (v := ?v2) rfl (by kernel_rfl) (by kernel_rfl) (by kernel_rfl) (fun _ _ _ h => h) (Or.inl ⟨rfl, ?c2⟩) hH ?r2
  case c2 => (intro w' _; go_simp; (try with_reducible rfl))
  try simp only [Act.put, List.setIfInBounds_toArray, List.set_cons_zero, List.set_cons_succ]
  refine wpAnyH_take (i := 3) (oi := ⟨some 26, _, _, _, _, _⟩) (v := ?v3) rfl (by kernel_rfl) (by kernel_rfl) (by kernel_rfl) (fun _ _ _ h => h) (Or.inl ⟨rfl, ?c3⟩) hH ?r3
  case c3 => (intro w' hS; (try dsimp only at hS); go_simp; (try with_reducible rfl))
  try simp only [Act.put, List.setIfInBounds_toArray, List.set_cons_zero, List.set_cons_succ]
  refine wpAnyH_ready (rs := [0]) (by kernel_rfl) (by simp) (AllReadyH.cons rfl (fun K hK => ?_) (AllReadyH.nil))
  go_simp
  go_at_call 26
  refine (protocols_any _).mono ?_
  rintro e w1 ⟨rfl, rfl⟩
  have HM := Lib.hid (heap_alloc_new W0.drew (.map pm 4))
  have HPM : Hid (PX w g v p s sp d dp (W0.drew.alloc (.map pm 4))) := hH.2.out.next (below_box _ _)
  refine hK.out _ _ (⟨HPM.out.wds.c1, HPM⟩) (fun hH => ?_)
  clear hK K
  try simp only [Act.put, List.setIfInBounds_toArray, List.set_cons_zero, List.set_cons_succ]
  refine wpAnyH_ready (rs := [4]) (by kernel_rfl) (by simp) (AllReadyH.cons rfl (fun K hK => ?_) (AllReadyH.nil))
  have hlk := HLK.out ((W0.alloc (.map pm 4)).drew) W0.heap.size (heap_alloc_new W0 _)
  go_simp
  refine hK.out _ _ (hH) (fun hH => ?_)
  clear hK K
  clear hlk
  try simp only [Act.put, List.setIfInBounds_toArray, List.set_cons_zero, List.set_cons_succ]
  refine wpAnyH_take (i := 5) (oi := ⟨some 22, _, _, _, _, _⟩) (v := ?v4) rfl (by kernel_rfl) (by kernel_rfl) (by kernel_rfl) (fun _ _ _ h => h) (Or.inl ⟨rfl, ?c4⟩) hH ?r4
  case c4 => (intro w' _; go_simp; (try with_reducible rfl))
  try simp only [Act.put, List.setIfInBounds_toArray, List.set_cons_zero, List.set_cons_succ]
  refine wpAnyH_take (i := 6) (oi := ⟨some 28, _, _, _, _, _⟩) (v := ?v5) rfl (by kernel_rfl) (by kernel_rfl) (by kernel_rfl) (fun _ _ _ h => h) (Or.inl ⟨rfl, ?c5⟩) hH ?r5
  case c5 => (intro w' _; go_simp; (try with_reducible rfl))
  try simp only [Act.put, List.setIfInBounds_toArray, List.set_cons_zero, List.set_cons_succ]
  refine wpAnyH_take (i := 7) (oi := ⟨some 29, _, _, _, _, _⟩) (v := ?v6) rfl (by kernel_rfl) (by kernel_rfl) (by kernel_rfl) (fun _ _ _ h => h) (Or.inl ⟨rfl, ?c6⟩) hH ?r6
  case c6 => (intro w' _; go_simp; (try with_reducible rfl))
  try simp only [Act.put, List.setIfInBounds_toArray, List.set_cons_zero, List.set_cons_succ]
  refine wpAnyH_take (i := 8) (oi := ⟨some 5, _, _, _, _, _⟩) (v := ?v7) rfl (by kernel_rfl) (by kernel_rfl) (by kernel_rfl) (fun _ _ _ h => h) (Or.inl ⟨rfl, ?c7⟩) hH ?r7
  case c7 => (intro w' _; go_simp; (try with_reducible rfl))
  try simp only [Act.put, List.setIfInBounds_toArray, List.set_cons_zero, List.set_cons_succ]
  refine wpAnyH_take (i := 9) (oi := ⟨some 6, _, _, _, _, _⟩) (v := ?v8) rfl (by kernel_rfl) (by kernel_rfl) (by kernel_rfl) (fun _ _ _ h => h) (Or.inl ⟨rfl, ?c8⟩) hH ?r8
  case c8 => (intro w' _; go_simp; (try with_reducible rfl))
  try simp only [Act.put, List.setIfInBounds_toArray, List.set_cons_zero, List.set_cons_succ]
  refine wpAnyH_done (by kernel_rfl) ?_ _
  have HQ0 := Lib.hid hH.2.out
  clear hH HM HPM HP0
  try clear hlk
  have c2 := HQ0.out.wds.c2
  go_wp2_with fail
  go_at_call 27
  refine (H0.out _ HQ0.out.ten.bel).mono ?_
  rintro e w2 ⟨rfl, hb⟩
  have HQ1 := Lib.hid ((HQ0.out.next hb).next (below_box w2 (.cells #[.int .u32 (x0 : Int), .int .i64 (y0 : Int)] 37)))
  clear hb c2
  have c3 := HQ1.out.wds.c3
  go_wp2_with fail
  go_at_call 28
  refine (H1.out _ HQ1.out.ten.bel).mono ?_
  rintro e w3 ⟨rfl, hb⟩
  have HQ2 := Lib.hid ((HQ1.out.next hb).next (below_box w3 (.cells #[.int .u16 (x1 : Int), .int .u16 (y1 : Int)] 40)))
  clear hb c3
  have c4 := HQ2.out.wds.c4
  go_wp2_with fail
  go_at_call 27
  refine (H2.out _ HQ2.out.ten.bel).mono ?_
  rintro e w4 ⟨rfl, hb⟩
  have HQ3 := Lib.hid ((HQ2.out.next hb).next (below_box w4 (.cells #[.int .u32 (x2 : Int), .int .i64 (y2 : Int)] 37)))
  clear hb c4
  have c5 := HQ3.out.wds.c5
  go_wp2_with fail
  go_at_call 28
  refine (H3.out _ HQ3.out.ten.bel).mono ?_
  rintro e w5 ⟨rfl, hb⟩
  have HQ4 := Lib.hid ((HQ3.out.next hb).next (below_box w5 (.cells #[.int .u16 0, .int .u16 0] 40)))
  clear hb c5
  have d0 := HQ4.out.ten.blk.cell 0 _ rfl
  have f0 := HQ4.out.ten.blk.frozen 0
  have d1 := HQ4.out.ten.blk.cell 1 _ rfl
  have f1 := HQ4.out.ten.blk.frozen 1
  have d2 := HQ4.out.ten.blk.cell 2 _ rfl
  have f2 := HQ4.out.ten.blk.frozen 2
  have d3 := HQ4.out.ten.blk.cell 3 _ rfl
  have f3 := HQ4.out.ten.blk.frozen 3
  have d4 := HQ4.out.ten.blk.cell 4 _ rfl
  have f4 := HQ4.out.ten.blk.frozen 4
  have d5 := HQ4.out.ten.blk.cell 5 _ rfl
  have f5 := HQ4.out.ten.blk.frozen 5
  have d6 := HQ4.out.ten.blk.cell 6 _ rfl
  have f6 := HQ4.out.ten.blk.frozen 6
  have d7 := HQ4.out.ten.blk.cell 7 _ rfl
  have f7 := HQ4.out.ten.blk.frozen 7
  have d8 := HQ4.out.ten.blk.cell 8 _ rfl
  have f8 := HQ4.out.ten.blk.frozen 8
  have d9 := HQ4.out.ten.blk.cell 9 _ rfl
  have f9 := HQ4.out.ten.blk.frozen 9
  go_wp2_with fail
  have HY := Lib.hid (HQ4.out.ten.put (.bool false) (.int .u8 0) (.int .u32 0) (.int .i64 0) (.int .u32 0) (.int .i64 0) (.int .u16 0) (.int .u16 0) (.int .u16 0) (.int .u16 0))
  have r0 := HY.out.blk.cell 0 _ rfl
  have r1 := HY.out.blk.cell 1 _ rfl
  have r2 := HY.out.blk.cell 2 _ rfl
  have r3 := HY.out.blk.cell 3 _ rfl
  have r4 := HY.out.blk.cell 4 _ rfl
  have r5 := HY.out.blk.cell 5 _ rfl
  have r6 := HY.out.blk.cell 6 _ rfl
  have r7 := HY.out.blk.cell 7 _ rfl
  have r8 := HY.out.blk.cell 8 _ rfl
  have r9 := HY.out.blk.cell 9 _ rfl
  clear d0 d1 d2 d3 d4 d5 d6 d7 d8 d9 f0 f1 f2 f3 f4 f5 f6 f7 f8 f9
  exact bodyPost_ret (v := ruleV none) (by simp [results, Tryd.results13, go_sem, ruleV, r0, r1, r2, r3, r4, r5, r6, r7, r8, r9]) rfl ⟨rfl, HY.out.bel⟩

set_option maxRecDepth 100000 in
set_option maxHeartbeats 2000000 in
theorem parse_dy (v p s sp d dp : List UInt8) (g cap : Nat) (w : World) (he : Env w) (hW : Wds g v p s sp d dp w) (hcap : 6 ≤ cap) (hcap2 : cap ≤ 9223372036854775807) (l2 : s.length ≤ 4096) (l3 : sp.length ≤ 4096) (l4 : d.length ≤ 4096) (l5 : dp.length ≤ 4096) (hA : (v == [97, 99, 99, 101, 112, 116]) = false) (hD : (v == [100, 114, 111, 112]) = true) (hK : protoB p = true) (x0 y0 : Nat) (h0 : netS s = some (x0, y0)) (x1 y1 : Nat) (h1 : spanP sp = some (x1, y1)) (x2 y2 : Nat) (h2 : netS d = some (x2, y2)) (x3 y3 : Nat) (h3 : spanP dp = some (x3, y3)) :
    Calls Tryd.prog 13 #[.slice (some ⟨g, 0, none⟩) 6 cap] w fun e w' => e = .returned (ruleV (some ⟨false, protoN p, x0, (y0 : Int), x2, (y2 : Int), x1, y1, x3, y3⟩)) ∧ Below w.heap.size w w' := by
  have H0 := Lib.hid (fun W (h : Below w.heap.size w W) => net_list s l2 W (he.ad.below h))
  rw [h0, netV_some] at H0
  have H1 := Lib.hid (fun W (h : Below w.heap.size w W) => parseSpan_any sp l3 W (he.ad.below h))
  rw [h1, spanV_some] at H1
  have H2 := Lib.hid (fun W (h : Below w.heap.size w W) => net_list d l4 W (he.ad.below h))
  rw [h2, netV_some] at H2
  have H3 := Lib.hid (fun W (h : Below w.heap.size w W) => parseSpan_any dp l5 W (he.ad.below h))
  rw [h3, spanV_some] at H3
  have HLK := Lib.hid (fun W b hb => look_list p W b hb)
  rw [hK] at HLK
  generalize protoN p = pn at *
  have HP0 : Hid (PX w g v p s sp d dp (w.alloc (.cells zR 42))) := ⟨TenAt.box w zR, hW.next (below_box _ _)⟩
  have hgl := hW.lt
  clear he l2 l3 l4 l5 h0 h1 h2 h3 hK hW
  have c0 := HP0.out.wds.c0
  have c1 := HP0.out.wds.c1
  go_enter Tryd.func13, Tryd.ntmps13
  go_wp2_with fail
  clear c0
  obtain ⟨W0, hW0⟩ : ∃ U, w.alloc (.cells zR 42) = U := ⟨_, rfl⟩
  unfold zR at hW0
  rw [hW0] at HP0 c1 ⊢
  clear hW0
  refine wp_region_held_drew (S := (fun w' => w'.cell? ⟨g, 1, none⟩ = some (.string ⟨p.toArray⟩) ∧ Hid (PX w g v p s sp d dp w'))) (by kernel_rfl) (⟨c1, HP0.out.next ((Below.refl _ _).drew)⟩) (fun hH => ?_)
  refine wpAnyH_take (i := 1) (oi := ⟨some 24, _, _, _, _, _⟩) (v := ?v1) rfl (by kernel_rfl) (by kernel_rfl) (by kernel_rfl) (fun _ _ _ h => h) (Or.inl ⟨rfl, ?c1⟩) hH ?r1
  case c1 => (intro w' _; go_simp; (try with_reducible rfl))
  try simp only [Act.put, List.setIfInBounds_toArray, List.set_cons_zero, List.set_cons_succ]
  refine wpAnyH_take (i := 2) (oi := ⟨some 25, _, _, _, _, _⟩) (v := ?v2) rfl (by kernel_rfl) (by kernel_rfl) (by kernel_rfl) (fun _ _ _ h => h) (Or.inl ⟨rfl, ?c2⟩) hH ?r2
  case c2 => (intro w' _; go_simp; (try with_reducible rfl))
  try simp only [Act.put, List.setIfInBounds_toArray, List.set_cons_zero, List.set_cons_succ]
  refine wpAnyH_take (i := 3) (oi := ⟨some 26, _, _, _, _, _⟩) (v := ?v3) rfl (by kernel_rfl) (by kernel_rfl) (by kernel_rfl) (fun _ _ _ h => h) (Or.inl ⟨rfl, ?c3⟩) hH ?r3
  case c3 => (intro w' hS; (try dsimp only at hS); go_simp; (try with_reducible rfl))
  try simp only [Act.put, List.setIfInBounds_toArray, List.set_cons_zero, List.set_cons_succ]
  refine wpAnyH_ready (rs := [0]) (by kernel_rfl) (by simp) (AllReadyH.cons rfl (fun K hK => ?_) (AllReadyH.nil))
  go_simp
  go_at_call 26
  refine (protocols_any _).mono ?_
  rintro e w1 ⟨rfl, rfl⟩
  have HM := Lib.hid (heap_alloc_new W0.drew (.map pm 4))
  have HPM : Hid (PX w g v p s sp d dp (W0.drew.alloc (.map pm 4))) := hH.2.out.next (below_box _ _)
  refine hK.out _ _ (⟨HPM.out.wds.c1, HPM⟩) (fun hH => ?_)
  clear hK K
  try simp only [Act.put, List.setIfInBounds_toArray, List.set_cons_zero, List.set_cons_succ]
  refine wpAnyH_ready (rs := [4]) (by kernel_rfl) (by simp) (AllReadyH.cons rfl (fun K hK => ?_) (AllReadyH.nil))
  have hlk := HLK.out ((W0.alloc (.map pm 4)).drew) W0.heap.size (heap_alloc_new W0 _)
  go_simp
  refine hK.out _ _ (hH) (fun hH => ?_)
  clear hK K
  clear hlk
  try simp only [Act.put, List.setIfInBounds_toArray, List.set_cons_zero, List.set_cons_succ]
  refine wpAnyH_take (i := 5) (oi := ⟨some 22, _, _, _, _, _⟩) (v := ?v4) rfl (by kernel_rfl) (by kernel_rfl) (by kernel_rfl) (fun _ _ _ h => h) (Or.inl ⟨rfl, ?c4⟩) hH ?r4
  case c4 => (intro w' _; go_simp; (try with_reducible rfl))
  try simp only [Act.put, List.setIfInBounds_toArray, List.set_cons_zero, List.set_cons_succ]
  refine wpAnyH_take (i := 6) (oi := ⟨some 28, _, _, _, _, _⟩) (v := ?v5) rfl (by kernel_rfl) (by kernel_rfl) (by kernel_rfl) (fun _ _ _ h => h) (Or.inl ⟨rfl, ?c5⟩) hH ?r5
  case c5 => (intro w' _; go_simp; (try with_reducible rfl))
  try simp only [Act.put, List.setIfInBounds_toArray, List.set_cons_zero, List.set_cons_succ]
  refine wpAnyH_take (i := 7) (oi := ⟨some 29, _, _, _, _, _⟩) (v := ?v6) rfl (by kernel_rfl) (by kernel_rfl) (by kernel_rfl) (fun _ _ _ h => h) (Or.inl ⟨rfl, ?c6⟩) hH ?r6
  case c6 => (intro w' _; go_simp; (try with_reducible rfl))
  try simp only [Act.put, List.setIfInBounds_toArray, List.set_cons_zero, List.set_cons_succ]
  refine wpAnyH_take (i := 8) (oi := ⟨some 5, _, _, _, _, _⟩) (v := ?v7) rfl (by kernel_rfl) (by kernel_rfl) (by kernel_rfl) (fun _ _ _ h => h) (Or.inl ⟨rfl, ?c7⟩) hH ?r7
  case c7 => (intro w' _; go_simp; (try with_reducible rfl))
  try simp only [Act.put, List.setIfInBounds_toArray, List.set_cons_zero, List.set_cons_succ]
  refine wpAnyH_take (i := 9) (oi := ⟨some 6, _, _, _, _, _⟩) (v := ?v8) rfl (by kernel_rfl) (by kernel_rfl) (by kernel_rfl) (fun _ _ _ h => h) (Or.inl ⟨rfl, ?c8⟩) hH ?r8
  case c8 => (intro w' _; go_simp; (try with_reducible rfl))
  try simp only [Act.put, List.setIfInBounds_toArray, List.set_cons_zero, List.set_cons_succ]
  refine wpAnyH_done (by kernel_rfl) ?_ _
  have HQ0 := Lib.hid hH.2.out
  clear hH HM HPM HP0
  try clear hlk
  have c2 := HQ0.out.wds.c2
  go_wp2_with fail
  go_at_call 27
  refine (H0.out _ HQ0.out.ten.bel).mono ?_
  rintro e w2 ⟨rfl, hb⟩
  have HQ1 := Lib.hid ((HQ0.out.next hb).next (below_box w2 (.cells #[.int .u32 (x0 : Int), .int .i64 (y0 : Int)] 37)))
  have HC0 := Lib.hid (Blk.box w2 #[.int .u32 (x0 : Int), .int .i64 (y0 : Int)] 37)
  clear hb c2
  have c3 := HQ1.out.wds.c3
  go_wp2_with fail
  go_at_call 28
  refine (H1.out _ HQ1.out.ten.bel).mono ?_
  rintro e w3 ⟨rfl, hb⟩
  have HQ2 := Lib.hid ((HQ1.out.next hb).next (below_box w3 (.cells #[.int .u16 (x1 : Int), .int .u16 (y1 : Int)] 40)))
  have HC0 := Lib.hid ((HC0.out.next hb).next (below_box w3 (.cells #[.int .u16 (x1 : Int), .int .u16 (y1 : Int)] 40)))
  have HC1 := Lib.hid (Blk.box w3 #[.int .u16 (x1 : Int), .int .u16 (y1 : Int)] 40)
  clear hb c3
  have c4 := HQ2.out.wds.c4
  go_wp2_with fail
  go_at_call 27
  refine (H2.out _ HQ2.out.ten.bel).mono ?_
  rintro e w4 ⟨rfl, hb⟩
  have HQ3 := Lib.hid ((HQ2.out.next hb).next (below_box w4 (.cells #[.int .u32 (x2 : Int), .int .i64 (y2 : Int)] 37)))
  have HC0 := Lib.hid ((HC0.out.next hb).next (below_box w4 (.cells #[.int .u32 (x2 : Int), .int .i64 (y2 : Int)] 37)))
  have HC1 := Lib.hid ((HC1.out.next hb).next (below_box w4 (.cells #[.int .u32 (x2 : Int), .int .i64 (y2 : Int)] 37)))
  have HC2 := Lib.hid (Blk.box w4 #[.int .u32 (x2 : Int), .int .i64 (y2 : Int)] 37)
  clear hb c4
  have c5 := HQ3.out.wds.c5
  go_wp2_with fail
  go_at_call 28
  refine (H3.out _ HQ3.out.ten.bel).mono ?_
  rintro e w5 ⟨rfl, hb⟩
  have HQ4 := Lib.hid ((HQ3.out.next hb).next (below_box w5 (.cells #[.int .u16 (x3 : Int), .int .u16 (y3 : Int)] 40)))
  have HC0 := Lib.hid ((HC0.out.next hb).next (below_box w5 (.cells #[.int .u16 (x3 : Int), .int .u16 (y3 : Int)] 40)))
  have HC1 := Lib.hid ((HC1.out.next hb).next (below_box w5 (.cells #[.int .u16 (x3 : Int), .int .u16 (y3 : Int)] 40)))
  have HC2 := Lib.hid ((HC2.out.next hb).next (below_box w5 (.cells #[.int .u16 (x3 : Int), .int .u16 (y3 : Int)] 40)))
  have HC3 := Lib.hid (Blk.box w5 #[.int .u16 (x3 : Int), .int .u16 (y3 : Int)] 40)
  clear hb c5
  have d0 := HQ4.out.ten.blk.cell 0 _ rfl
  have f0 := HQ4.out.ten.blk.frozen 0
  have d1 := HQ4.out.ten.blk.cell 1 _ rfl
  have f1 := HQ4.out.ten.blk.frozen 1
  have d2 := HQ4.out.ten.blk.cell 2 _ rfl
  have f2 := HQ4.out.ten.blk.frozen 2
  have d3 := HQ4.out.ten.blk.cell 3 _ rfl
  have f3 := HQ4.out.ten.blk.frozen 3
  have d4 := HQ4.out.ten.blk.cell 4 _ rfl
  have f4 := HQ4.out.ten.blk.frozen 4
  have d5 := HQ4.out.ten.blk.cell 5 _ rfl
  have f5 := HQ4.out.ten.blk.frozen 5
  have d6 := HQ4.out.ten.blk.cell 6 _ rfl
  have f6 := HQ4.out.ten.blk.frozen 6
  have d7 := HQ4.out.ten.blk.cell 7 _ rfl
  have f7 := HQ4.out.ten.blk.frozen 7
  have d8 := HQ4.out.ten.blk.cell 8 _ rfl
  have f8 := HQ4.out.ten.blk.frozen 8
  have d9 := HQ4.out.ten.blk.cell 9 _ rfl
  have f9 := HQ4.out.ten.blk.frozen 9
  have k00 := HC0.out.cell 0 _ rfl
  have k01 := HC0.out.cell 1 _ rfl
  have k10 := HC1.out.cell 0 _ rfl
  have k11 := HC1.out.cell 1 _ rfl
  have k20 := HC2.out.cell 0 _ rfl
  have k21 := HC2.out.cell 1 _ rfl
  have k30 := HC3.out.cell 0 _ rfl
  have k31 := HC3.out.cell 1 _ rfl
  go_wp2_with fail
  have HY := Lib.hid (HQ4.out.ten.put (.bool false) (.int .u8 (pn : Int)) (.int .u32 (x0 : Int)) (.int .i64 (y0 : Int)) (.int .u32 (x2 : Int)) (.int .i64 (y2 : Int)) (.int .u16 (x1 : Int)) (.int .u16 (y1 : Int)) (.int .u16 (x3 : Int)) (.int .u16 (y3 : Int)))
  have r0 := HY.out.blk.cell 0 _ rfl
  have r1 := HY.out.blk.cell 1 _ rfl
  have r2 := HY.out.blk.cell 2 _ rfl
  have r3 := HY.out.blk.cell 3 _ rfl
  have r4 := HY.out.blk.cell 4 _ rfl
  have r5 := HY.out.blk.cell 5 _ rfl
  have r6 := HY.out.blk.cell 6 _ rfl
  have r7 := HY.out.blk.cell 7 _ rfl
  have r8 := HY.out.blk.cell 8 _ rfl
  have r9 := HY.out.blk.cell 9 _ rfl
  clear d0 d1 d2 d3 d4 d5 d6 d7 d8 d9 f0 f1 f2 f3 f4 f5 f6 f7 f8 f9
  exact bodyPost_ret (v := ruleV (some ⟨false, pn, x0, (y0 : Int), x2, (y2 : Int), x1, y1, x3, y3⟩)) (by simp [results, Tryd.results13, go_sem, ruleV, r0, r1, r2, r3, r4, r5, r6, r7, r8, r9]) rfl ⟨rfl, HY.out.bel⟩

end Ru
end Go.Proofs.YtfbbkbjiaopnkaaDoor
