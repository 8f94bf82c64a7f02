/- Layer 12: the walks of RulesCompiles and RulesPrints. (Written by wip/tools/mkRulS.py.) -/
import Derived.Test.YtfbbkbjiaopnkaaGreatDoorRulR
import Derived.Test.YtfbbkbjiaopnkaaGreatDoorRulP
set_option linter.unusedVariables false
set_option linter.unusedSimpArgs false
namespace Go.Proofs.YtfbbkbjiaopnkaaGreatDoor
open Go.ChangeShapes Go.WideShapes Go.ChangeAt Go.RowKit Go.Mtl Go.Shelf Go.Lib
namespace Ru
open RulM (R compile printE printT goodR)

set_option maxRecDepth 100000 in
set_option maxHeartbeats 1000000 in
theorem rulesCompiles_walk (s : ByteArray) (w : World) (he : Env w) (hs : s.size ≤ maxLen) :
    Calls Tryz.prog 3 #[.string s] w fun e w' => e = .returned (.bool true) ∧ Below w.heap.size w w' := by
  have H1 := Lib.hid (compile_any s w hs he)
  have H2 := Lib.hid (fun W => refCompile_any s W hs)
  have HE := Lib.hid he
  clear he hs
  unfold AnsR at H1 H2
  generalize compile s.data.toList = C at H1 H2
  obtain ⟨rs, n, er⟩ := C
  go_enter Tryz.func3, Tryz.ntmps3
  go_wp2_with fail
  go_at_call 5
  refine H1.out.mono ?_
  rintro e w1 ⟨v1, rfl, hl1, hb1⟩
  have HB1 := Lib.hid hb1
  have HL1 := Lib.hid hl1
  clear hb1 hl1 H1
  go_wp2_with fail
  go_at_call 6
  refine (H2.out _).mono ?_
  rintro e w2 ⟨v2, rfl, hl2, hb2⟩
  have HB2 := Lib.hid (below_then HB1.out hb2)
  have HL2 := Lib.hid hl2
  have HL1' := Lib.hid (HL1.out.below hb2)
  clear hb2 hl2 H2 HL1 HB1
  have HA := Lib.hid (awake_any w2 (HE.out.below HB2.out))
  go_wp2_with fail
  go_at_call 7
  refine HA.out.mono ?_
  rintro e w3 ⟨rfl, hb3⟩
  have HB3 := Lib.hid (below_then HB2.out hb3)
  have HS := Lib.hid (same_true v1 v2 rs w3 (HL1'.out.below hb3) (HL2.out.below hb3))
  clear hb3 HA HL1' HL2
  go_wp2_with fail
  go_at_call 8
  refine HS.out.mono ?_
  rintro e w4 ⟨rfl, q, rfl⟩
  have hn : ((n : Int) == (n : Int)) = true := beq_self_eq_true _
  have hr : ((er : Int) == (er : Int)) = true := beq_self_eq_true _
  go_wp2_with fail
  go_ret
  exact ⟨rfl, HB3.out.drews q⟩

theorem tr_of {w W : World} {r : R} (h : RAt w w.heap.size r W) : W.cell? ⟨w.heap.size, 0, none⟩ = some (.bool r.acc) ∧ W.cell? ⟨w.heap.size, 1, none⟩ = some (.int .u8 (r.pr : Int)) ∧ W.cell? ⟨w.heap.size, 2, none⟩ = some (.int .u32 (r.sa : Int)) ∧ W.cell? ⟨w.heap.size, 3, none⟩ = some (.int .i64 r.sb) ∧ W.cell? ⟨w.heap.size, 4, none⟩ = some (.int .u32 (r.da : Int)) ∧ W.cell? ⟨w.heap.size, 5, none⟩ = some (.int .i64 r.db) ∧ W.cell? ⟨w.heap.size, 6, none⟩ = some (.int .u16 (r.sl : Int)) ∧ W.cell? ⟨w.heap.size, 7, none⟩ = some (.int .u16 (r.sh : Int)) ∧ W.cell? ⟨w.heap.size, 8, none⟩ = some (.int .u16 (r.dl : Int)) ∧ W.cell? ⟨w.heap.size, 9, none⟩ = some (.int .u16 (r.dh : Int)) ∧ Hid (RAt w w.heap.size r W) := ⟨h.c0, h.c1, h.c2, h.c3, h.c4, h.c5, h.c6, h.c7, h.c8, h.c9, h⟩
/-- The first eighty. -/
def cutR (rs : List R) : List R := if 80 < rs.length then rs.take 80 else rs
theorem cut_ok {rs : List R} (h : ∀ r ∈ rs, r.Ok) : ∀ r ∈ cutR rs, r.Ok := by
  unfold cutR; split
  · exact fun r hr => h r (List.mem_of_mem_take hr)
  · exact h
set_option maxRecDepth 100000 in
set_option maxHeartbeats 2000000 in
theorem prints_long (A : Option Addr) (n cap : Nat) (rs : List R) (r : R) (w : World) (he : Env w) (hn : rs.length = n) (hr : Rds w w.heap.size (.slice A n cap) rs) (ho : ∀ r ∈ rs, r.Ok) (hro : r.Ok) (hcn : n ≤ cap) (hcm : cap ≤ maxLen) (h80 : 80 < n) :
    Calls Tryz.prog 4 #[.slice A n cap, .agg #[.bool r.acc, .int .u8 (r.pr : Int), .int .u32 (r.sa : Int), .int .i64 r.sb, .int .u32 (r.da : Int), .int .i64 r.db, .int .u16 (r.sl : Int), .int .u16 (r.sh : Int), .int .u16 (r.dl : Int), .int .u16 (r.dh : Int)]] w fun e w' => e = .returned (.bool true) ∧ Below w.heap.size w w' := by
  unfold maxLen at hcm
  have hr2 : Rds (w.alloc (.cells (cR r) 38)) (w.alloc (.cells (cR r) 38)).heap.size (.slice A 80 cap) (rs.take 80) := (hr.front 80 (by omega)).below (below_box _ _)
  have ho2 : ∀ r ∈ rs.take 80, r.Ok := fun r hr => ho r (List.mem_of_mem_take hr)
  have HE := Lib.hid he
  have HK0 := Lib.hid (RAt.box w r)
  have HG1 := Lib.hid (fun W (h : Below w.heap.size w W) => good_any r hro W (he.below h))
  have HG2 := Lib.hid (fun W => refGood_any r hro W)
  have HA := Lib.hid (fun W (h : Below w.heap.size w W) => awake_any W (he.below h))
  have HP1 := Lib.hid (print_any _ (rs.take 80) (w.alloc (.cells (cR r) 38)) (he.alloc _) hr2 ho2)
  have HP2 := Lib.hid (fun W (h : Below (w.alloc (.cells (cR r) 38)).heap.size (w.alloc (.cells (cR r) 38)) W) => refPrint_any _ (rs.take 80) W (hr2.below h) ho2)
  generalize printT (rs.take 80) = pt at *
  generalize printE (rs.take 80) = pe at *
  generalize goodR r = gr at *
  clear he hr ho hro hn hr2 ho2
  have hgg : (gr == gr) = true := beq_self_eq_true _
  have hpp : (pt == pt) = true := beq_self_eq_true _
  have hee : ((pe : Int) == (pe : Int)) = true := beq_self_eq_true _
  go_enter Tryz.func4, Tryz.ntmps4
  go_wp2_with fail
  go_at_call 9
  refine HP1.out.mono ?_
  rintro e w1 ⟨rfl, hb1⟩
  have HB1 := Lib.hid hb1
  have HK1 := Lib.hid (HK0.out.next hb1)
  clear hb1
  go_wp2_with fail
  go_at_call 10
  refine (HP2.out _ HB1.out).mono ?_
  rintro e w2 ⟨rfl, hb2⟩
  have HK := Lib.hid (HK1.out.next hb2)
  clear hb2 HB1 HK1 HP1 HP2
  go_wp2_with fail
  refine wp_region_held_drew (S := (fun w' => w'.cell? ⟨w.heap.size, 0, none⟩ = some (.bool r.acc) ∧ w'.cell? ⟨w.heap.size, 1, none⟩ = some (.int .u8 (r.pr : Int)) ∧ w'.cell? ⟨w.heap.size, 2, none⟩ = some (.int .u32 (r.sa : Int)) ∧ w'.cell? ⟨w.heap.size, 3, none⟩ = some (.int .i64 r.sb) ∧ w'.cell? ⟨w.heap.size, 4, none⟩ = some (.int .u32 (r.da : Int)) ∧ w'.cell? ⟨w.heap.size, 5, none⟩ = some (.int .i64 r.db) ∧ w'.cell? ⟨w.heap.size, 6, none⟩ = some (.int .u16 (r.sl : Int)) ∧ w'.cell? ⟨w.heap.size, 7, none⟩ = some (.int .u16 (r.sh : Int)) ∧ w'.cell? ⟨w.heap.size, 8, none⟩ = some (.int .u16 (r.dl : Int)) ∧ w'.cell? ⟨w.heap.size, 9, none⟩ = some (.int .u16 (r.dh : Int)) ∧ Hid (RAt w w.heap.size r w'))) (by kernel_rfl) (tr_of HK.out.drew) (fun hH => ?_)
  refine wpAnyH_ready (rs := [0]) (by kernel_rfl) (by simp) (AllReadyH.cons rfl (fun K hK => ?_) (AllReadyH.nil))
  go_simp
  go_at_call 7
  refine (HA.out _ hH.2.2.2.2.2.2.2.2.2.2.out.bel).mono ?_
  rintro e w6 ⟨rfl, hb6⟩
  refine hK.out _ _ (tr_of (hH.2.2.2.2.2.2.2.2.2.2.out.next hb6)) (fun hH => ?_)
  clear hK K
  clear hb6
  try simp only [Act.put, List.setIfInBounds_toArray, List.set_cons_zero, List.set_cons_succ]
  refine wpAnyH_take (i := 1) (oi := ⟨some 27, _, _, _, _, _⟩) (v := ?v1) rfl (by kernel_rfl) (by kernel_rfl) (by kernel_rfl) (fun _ _ _ h => h) (Or.inl ⟨rfl, ?c1⟩) hH ?r1
  case c1 => (intro w' _; go_simp; (try with_reducible rfl))
  try simp only [Act.put, List.setIfInBounds_toArray, List.set_cons_zero, List.set_cons_succ]
  refine wpAnyH_take (i := 2) (oi := ⟨some 28, _, _, _, _, _⟩) (v := ?v2) rfl (by kernel_rfl) (by kernel_rfl) (by kernel_rfl) (fun _ _ _ h => h) (Or.inl ⟨rfl, ?c2⟩) hH ?r2
  case c2 => (intro w' _; go_simp; (try with_reducible rfl))
  try simp only [Act.put, List.setIfInBounds_toArray, List.set_cons_zero, List.set_cons_succ]
  refine wpAnyH_take (i := 3) (oi := ⟨some 29, _, _, _, _, _⟩) (v := ?v3) rfl (by kernel_rfl) (by kernel_rfl) (by kernel_rfl) (fun _ _ _ h => h) (Or.inl ⟨rfl, ?c3⟩) hH ?r3
  case c3 => (intro w' _; go_simp; (try with_reducible rfl))
  try simp only [Act.put, List.setIfInBounds_toArray, List.set_cons_zero, List.set_cons_succ]
  refine wpAnyH_take (i := 4) (oi := ⟨some 30, _, _, _, _, _⟩) (v := ?v4) rfl (by kernel_rfl) (by kernel_rfl) (by kernel_rfl) (fun _ _ _ h => h) (Or.inl ⟨rfl, ?c4⟩) hH ?r4
  case c4 => (intro w' _; go_simp; (try with_reducible rfl))
  try simp only [Act.put, List.setIfInBounds_toArray, List.set_cons_zero, List.set_cons_succ]
  refine wpAnyH_take (i := 5) (oi := ⟨some 31, _, _, _, _, _⟩) (v := ?v5) rfl (by kernel_rfl) (by kernel_rfl) (by kernel_rfl) (fun _ _ _ h => h) (Or.inl ⟨rfl, ?c5⟩) hH ?r5
  case c5 => (intro w' _; go_simp; (try with_reducible rfl))
  try simp only [Act.put, List.setIfInBounds_toArray, List.set_cons_zero, List.set_cons_succ]
  refine wpAnyH_take (i := 6) (oi := ⟨some 32, _, _, _, _, _⟩) (v := ?v6) rfl (by kernel_rfl) (by kernel_rfl) (by kernel_rfl) (fun _ _ _ h => h) (Or.inl ⟨rfl, ?c6⟩) hH ?r6
  case c6 => (intro w' _; go_simp; (try with_reducible rfl))
  try simp only [Act.put, List.setIfInBounds_toArray, List.set_cons_zero, List.set_cons_succ]
  refine wpAnyH_take (i := 7) (oi := ⟨some 33, _, _, _, _, _⟩) (v := ?v7) rfl (by kernel_rfl) (by kernel_rfl) (by kernel_rfl) (fun _ _ _ h => h) (Or.inl ⟨rfl, ?c7⟩) hH ?r7
  case c7 => (intro w' _; go_simp; (try with_reducible rfl))
  try simp only [Act.put, List.setIfInBounds_toArray, List.set_cons_zero, List.set_cons_succ]
  refine wpAnyH_take (i := 8) (oi := ⟨some 34, _, _, _, _, _⟩) (v := ?v8) rfl (by kernel_rfl) (by kernel_rfl) (by kernel_rfl) (fun _ _ _ h => h) (Or.inl ⟨rfl, ?c8⟩) hH ?r8
  case c8 => (intro w' _; go_simp; (try with_reducible rfl))
  try simp only [Act.put, List.setIfInBounds_toArray, List.set_cons_zero, List.set_cons_succ]
  refine wpAnyH_take (i := 9) (oi := ⟨some 35, _, _, _, _, _⟩) (v := ?v9) rfl (by kernel_rfl) (by kernel_rfl) (by kernel_rfl) (fun _ _ _ h => h) (Or.inl ⟨rfl, ?c9⟩) hH ?r9
  case c9 => (intro w' _; go_simp; (try with_reducible rfl))
  try simp only [Act.put, List.setIfInBounds_toArray, List.set_cons_zero, List.set_cons_succ]
  refine wpAnyH_take (i := 10) (oi := ⟨some 36, _, _, _, _, _⟩) (v := ?v10) rfl (by kernel_rfl) (by kernel_rfl) (by kernel_rfl) (fun _ _ _ h => h) (Or.inl ⟨rfl, ?c10⟩) hH ?r10
  case c10 => (intro w' _; go_simp; (try with_reducible rfl))
  try simp only [Act.put, List.setIfInBounds_toArray, List.set_cons_zero, List.set_cons_succ]
  refine wpAnyH_take (i := 11) (oi := ⟨some 37, _, _, _, _, _⟩) (v := ?v11) rfl (by kernel_rfl) (by kernel_rfl) (by kernel_rfl) (fun _ _ _ h => h) (Or.inl ⟨rfl, ?c11⟩) hH ?r11
  case c11 => (intro w' _; go_simp; (try with_reducible rfl))
  try simp only [Act.put, List.setIfInBounds_toArray, List.set_cons_zero, List.set_cons_succ]
  refine wpAnyH_take (i := 12) (oi := ⟨some 38, _, _, _, _, _⟩) (v := ?v12) rfl (by kernel_rfl) (by kernel_rfl) (by kernel_rfl) (fun _ _ _ h => h) (Or.inl ⟨rfl, ?c12⟩) hH ?r12
  case c12 => (intro w' hS; (try dsimp only at hS); go_simp; (try with_reducible rfl))
  try simp only [Act.put, List.setIfInBounds_toArray, List.set_cons_zero, List.set_cons_succ]
  refine wpAnyH_take (i := 14) (oi := ⟨some 40, _, _, _, _, _⟩) (v := ?v13) rfl (by kernel_rfl) (by kernel_rfl) (by kernel_rfl) (fun _ _ _ h => h) (Or.inl ⟨rfl, ?c13⟩) hH ?r13
  case c13 => (intro w' hS; (try dsimp only at hS); go_simp; (try with_reducible rfl))
  try simp only [Act.put, List.setIfInBounds_toArray, List.set_cons_zero, List.set_cons_succ]
  refine wpAnyH_ready (rs := [13]) (by kernel_rfl) (by simp) (AllReadyH.cons rfl (fun K hK => ?_) (AllReadyH.nil))
  go_simp
  go_at_call 11
  refine (HG1.out _ hH.2.2.2.2.2.2.2.2.2.2.out.bel).mono ?_
  rintro e w7 ⟨rfl, hb7⟩
  refine hK.out _ _ (tr_of (hH.2.2.2.2.2.2.2.2.2.2.out.next hb7)) (fun hH => ?_)
  clear hK K
  clear hb7
  try simp only [Act.put, List.setIfInBounds_toArray, List.set_cons_zero, List.set_cons_succ]
  refine wpAnyH_ready (rs := [15]) (by kernel_rfl) (by simp) (AllReadyH.cons rfl (fun K hK => ?_) (AllReadyH.nil))
  go_simp
  go_at_call 12
  refine (HG2.out _).mono ?_
  rintro e w8 ⟨rfl, hb8⟩
  refine hK.out _ _ (tr_of (hH.2.2.2.2.2.2.2.2.2.2.out.next hb8)) (fun hH => ?_)
  clear hK K
  clear hb8
  try simp only [Act.put, List.setIfInBounds_toArray, List.set_cons_zero, List.set_cons_succ]
  refine wpAnyH_take (i := 16) (oi := ⟨some 42, _, _, _, _, _⟩) (v := ?v14) rfl (by kernel_rfl) (by kernel_rfl) (by kernel_rfl) (fun _ _ _ h => h) (Or.inl ⟨rfl, ?c14⟩) hH ?r14
  case c14 => (intro w' _; go_simp; (try with_reducible rfl))
  try simp only [Act.put, List.setIfInBounds_toArray, List.set_cons_zero, List.set_cons_succ]
  refine wpAnyH_take (i := 17) (oi := ⟨some 43, _, _, _, _, _⟩) (v := ?v15) rfl (by kernel_rfl) (by kernel_rfl) (by kernel_rfl) (fun _ _ _ h => h) (Or.inl ⟨rfl, ?c15⟩) hH ?r15
  case c15 => (intro w' _; go_simp; (try with_reducible rfl))
  try simp only [Act.put, List.setIfInBounds_toArray, List.set_cons_zero, List.set_cons_succ]
  refine wpAnyH_take (i := 18) (oi := ⟨some 4, _, _, _, _, _⟩) (v := ?v16) rfl (by kernel_rfl) (by kernel_rfl) (by kernel_rfl) (fun _ _ _ h => h) (Or.inl ⟨rfl, ?c16⟩) hH ?r16
  case c16 => (intro w' _; go_simp; (try with_reducible rfl))
  try simp only [Act.put, List.setIfInBounds_toArray, List.set_cons_zero, List.set_cons_succ]
  refine wpAnyH_done (by kernel_rfl) ?_ _
  have HBE := Lib.hid hH.2.2.2.2.2.2.2.2.2.2.out.bel
  clear hH
  go_wp2_with fail
  go_ret
  exact ⟨rfl, HBE.out⟩
set_option maxRecDepth 100000 in
set_option maxHeartbeats 2000000 in
theorem prints_short (A : Option Addr) (n cap : Nat) (rs : List R) (r : R) (w : World) (he : Env w) (hn : rs.length = n) (hr : Rds w w.heap.size (.slice A n cap) rs) (ho : ∀ r ∈ rs, r.Ok) (hro : r.Ok) (hcn : n ≤ cap) (hcm : cap ≤ maxLen) (h80 : ¬ 80 < n) :
    Calls Tryz.prog 4 #[.slice A n cap, .agg #[.bool r.acc, .int .u8 (r.pr : Int), .int .u32 (r.sa : Int), .int .i64 r.sb, .int .u32 (r.da : Int), .int .i64 r.db, .int .u16 (r.sl : Int), .int .u16 (r.sh : Int), .int .u16 (r.dl : Int), .int .u16 (r.dh : Int)]] w fun e w' => e = .returned (.bool true) ∧ Below w.heap.size w w' := by
  unfold maxLen at hcm
  have hr2 : Rds (w.alloc (.cells (cR r) 38)) (w.alloc (.cells (cR r) 38)).heap.size (.slice A n cap) rs := hr.below (below_box _ _)
  have ho2 : ∀ r ∈ rs, r.Ok := ho
  have HE := Lib.hid he
  have HK0 := Lib.hid (RAt.box w r)
  have HG1 := Lib.hid (fun W (h : Below w.heap.size w W) => good_any r hro W (he.below h))
  have HG2 := Lib.hid (fun W => refGood_any r hro W)
  have HA := Lib.hid (fun W (h : Below w.heap.size w W) => awake_any W (he.below h))
  have HP1 := Lib.hid (print_any _ (rs) (w.alloc (.cells (cR r) 38)) (he.alloc _) hr2 ho2)
  have HP2 := Lib.hid (fun W (h : Below (w.alloc (.cells (cR r) 38)).heap.size (w.alloc (.cells (cR r) 38)) W) => refPrint_any _ (rs) W (hr2.below h) ho2)
  generalize printT (rs) = pt at *
  generalize printE (rs) = pe at *
  generalize goodR r = gr at *
  clear he hr ho hro hn hr2 ho2
  have hgg : (gr == gr) = true := beq_self_eq_true _
  have hpp : (pt == pt) = true := beq_self_eq_true _
  have hee : ((pe : Int) == (pe : Int)) = true := beq_self_eq_true _
  go_enter Tryz.func4, Tryz.ntmps4
  go_wp2_with fail
  go_at_call 9
  refine HP1.out.mono ?_
  rintro e w1 ⟨rfl, hb1⟩
  have HB1 := Lib.hid hb1
  have HK1 := Lib.hid (HK0.out.next hb1)
  clear hb1
  go_wp2_with fail
  go_at_call 10
  refine (HP2.out _ HB1.out).mono ?_
  rintro e w2 ⟨rfl, hb2⟩
  have HK := Lib.hid (HK1.out.next hb2)
  clear hb2 HB1 HK1 HP1 HP2
  go_wp2_with fail
  refine wp_region_held_drew (S := (fun w' => w'.cell? ⟨w.heap.size, 0, none⟩ = some (.bool r.acc) ∧ w'.cell? ⟨w.heap.size, 1, none⟩ = some (.int .u8 (r.pr : Int)) ∧ w'.cell? ⟨w.heap.size, 2, none⟩ = some (.int .u32 (r.sa : Int)) ∧ w'.cell? ⟨w.heap.size, 3, none⟩ = some (.int .i64 r.sb) ∧ w'.cell? ⟨w.heap.size, 4, none⟩ = some (.int .u32 (r.da : Int)) ∧ w'.cell? ⟨w.heap.size, 5, none⟩ = some (.int .i64 r.db) ∧ w'.cell? ⟨w.heap.size, 6, none⟩ = some (.int .u16 (r.sl : Int)) ∧ w'.cell? ⟨w.heap.size, 7, none⟩ = some (.int .u16 (r.sh : Int)) ∧ w'.cell? ⟨w.heap.size, 8, none⟩ = some (.int .u16 (r.dl : Int)) ∧ w'.cell? ⟨w.heap.size, 9, none⟩ = some (.int .u16 (r.dh : Int)) ∧ Hid (RAt w w.heap.size r w'))) (by kernel_rfl) (tr_of HK.out.drew) (fun hH => ?_)
  refine wpAnyH_ready (rs := [0]) (by kernel_rfl) (by simp) (AllReadyH.cons rfl (fun K hK => ?_) (AllReadyH.nil))
  go_simp
  go_at_call 7
  refine (HA.out _ hH.2.2.2.2.2.2.2.2.2.2.out.bel).mono ?_
  rintro e w6 ⟨rfl, hb6⟩
  refine hK.out _ _ (tr_of (hH.2.2.2.2.2.2.2.2.2.2.out.next hb6)) (fun hH => ?_)
  clear hK K
  clear hb6
  try simp only [Act.put, List.setIfInBounds_toArray, List.set_cons_zero, List.set_cons_succ]
  refine wpAnyH_take (i := 1) (oi := ⟨some 27, _, _, _, _, _⟩) (v := ?v1) rfl (by kernel_rfl) (by kernel_rfl) (by kernel_rfl) (fun _ _ _ h => h) (Or.inl ⟨rfl, ?c1⟩) hH ?r1
  case c1 => (intro w' _; go_simp; (try with_reducible rfl))
  try simp only [Act.put, List.setIfInBounds_toArray, List.set_cons_zero, List.set_cons_succ]
  refine wpAnyH_take (i := 2) (oi := ⟨some 28, _, _, _, _, _⟩) (v := ?v2) rfl (by kernel_rfl) (by kernel_rfl) (by kernel_rfl) (fun _ _ _ h => h) (Or.inl ⟨rfl, ?c2⟩) hH ?r2
  case c2 => (intro w' _; go_simp; (try with_reducible rfl))
  try simp only [Act.put, List.setIfInBounds_toArray, List.set_cons_zero, List.set_cons_succ]
  refine wpAnyH_take (i := 3) (oi := ⟨some 29, _, _, _, _, _⟩) (v := ?v3) rfl (by kernel_rfl) (by kernel_rfl) (by kernel_rfl) (fun _ _ _ h => h) (Or.inl ⟨rfl, ?c3⟩) hH ?r3
  case c3 => (intro w' _; go_simp; (try with_reducible rfl))
  try simp only [Act.put, List.setIfInBounds_toArray, List.set_cons_zero, List.set_cons_succ]
  refine wpAnyH_take (i := 4) (oi := ⟨some 30, _, _, _, _, _⟩) (v := ?v4) rfl (by kernel_rfl) (by kernel_rfl) (by kernel_rfl) (fun _ _ _ h => h) (Or.inl ⟨rfl, ?c4⟩) hH ?r4
  case c4 => (intro w' _; go_simp; (try with_reducible rfl))
  try simp only [Act.put, List.setIfInBounds_toArray, List.set_cons_zero, List.set_cons_succ]
  refine wpAnyH_take (i := 5) (oi := ⟨some 31, _, _, _, _, _⟩) (v := ?v5) rfl (by kernel_rfl) (by kernel_rfl) (by kernel_rfl) (fun _ _ _ h => h) (Or.inl ⟨rfl, ?c5⟩) hH ?r5
  case c5 => (intro w' _; go_simp; (try with_reducible rfl))
  try simp only [Act.put, List.setIfInBounds_toArray, List.set_cons_zero, List.set_cons_succ]
  refine wpAnyH_take (i := 6) (oi := ⟨some 32, _, _, _, _, _⟩) (v := ?v6) rfl (by kernel_rfl) (by kernel_rfl) (by kernel_rfl) (fun _ _ _ h => h) (Or.inl ⟨rfl, ?c6⟩) hH ?r6
  case c6 => (intro w' _; go_simp; (try with_reducible rfl))
  try simp only [Act.put, List.setIfInBounds_toArray, List.set_cons_zero, List.set_cons_succ]
  refine wpAnyH_take (i := 7) (oi := ⟨some 33, _, _, _, _, _⟩) (v := ?v7) rfl (by kernel_rfl) (by kernel_rfl) (by kernel_rfl) (fun _ _ _ h => h) (Or.inl ⟨rfl, ?c7⟩) hH ?r7
  case c7 => (intro w' _; go_simp; (try with_reducible rfl))
  try simp only [Act.put, List.setIfInBounds_toArray, List.set_cons_zero, List.set_cons_succ]
  refine wpAnyH_take (i := 8) (oi := ⟨some 34, _, _, _, _, _⟩) (v := ?v8) rfl (by kernel_rfl) (by kernel_rfl) (by kernel_rfl) (fun _ _ _ h => h) (Or.inl ⟨rfl, ?c8⟩) hH ?r8
  case c8 => (intro w' _; go_simp; (try with_reducible rfl))
  try simp only [Act.put, List.setIfInBounds_toArray, List.set_cons_zero, List.set_cons_succ]
  refine wpAnyH_take (i := 9) (oi := ⟨some 35, _, _, _, _, _⟩) (v := ?v9) rfl (by kernel_rfl) (by kernel_rfl) (by kernel_rfl) (fun _ _ _ h => h) (Or.inl ⟨rfl, ?c9⟩) hH ?r9
  case c9 => (intro w' _; go_simp; (try with_reducible rfl))
  try simp only [Act.put, List.setIfInBounds_toArray, List.set_cons_zero, List.set_cons_succ]
  refine wpAnyH_take (i := 10) (oi := ⟨some 36, _, _, _, _, _⟩) (v := ?v10) rfl (by kernel_rfl) (by kernel_rfl) (by kernel_rfl) (fun _ _ _ h => h) (Or.inl ⟨rfl, ?c10⟩) hH ?r10
  case c10 => (intro w' _; go_simp; (try with_reducible rfl))
  try simp only [Act.put, List.setIfInBounds_toArray, List.set_cons_zero, List.set_cons_succ]
  refine wpAnyH_take (i := 11) (oi := ⟨some 37, _, _, _, _, _⟩) (v := ?v11) rfl (by kernel_rfl) (by kernel_rfl) (by kernel_rfl) (fun _ _ _ h => h) (Or.inl ⟨rfl, ?c11⟩) hH ?r11
  case c11 => (intro w' _; go_simp; (try with_reducible rfl))
  try simp only [Act.put, List.setIfInBounds_toArray, List.set_cons_zero, List.set_cons_succ]
  refine wpAnyH_take (i := 12) (oi := ⟨some 38, _, _, _, _, _⟩) (v := ?v12) rfl (by kernel_rfl) (by kernel_rfl) (by kernel_rfl) (fun _ _ _ h => h) (Or.inl ⟨rfl, ?c12⟩) hH ?r12
  case c12 => (intro w' hS; (try dsimp only at hS); go_simp; (try with_reducible rfl))
  try simp only [Act.put, List.setIfInBounds_toArray, List.set_cons_zero, List.set_cons_succ]
  refine wpAnyH_take (i := 14) (oi := ⟨some 40, _, _, _, _, _⟩) (v := ?v13) rfl (by kernel_rfl) (by kernel_rfl) (by kernel_rfl) (fun _ _ _ h => h) (Or.inl ⟨rfl, ?c13⟩) hH ?r13
  case c13 => (intro w' hS; (try dsimp only at hS); go_simp; (try with_reducible rfl))
  try simp only [Act.put, List.setIfInBounds_toArray, List.set_cons_zero, List.set_cons_succ]
  refine wpAnyH_ready (rs := [13]) (by kernel_rfl) (by simp) (AllReadyH.cons rfl (fun K hK => ?_) (AllReadyH.nil))
  go_simp
  go_at_call 11
  refine (HG1.out _ hH.2.2.2.2.2.2.2.2.2.2.out.bel).mono ?_
  rintro e w7 ⟨rfl, hb7⟩
  refine hK.out _ _ (tr_of (hH.2.2.2.2.2.2.2.2.2.2.out.next hb7)) (fun hH => ?_)
  clear hK K
  clear hb7
  try simp only [Act.put, List.setIfInBounds_toArray, List.set_cons_zero, List.set_cons_succ]
  refine wpAnyH_ready (rs := [15]) (by kernel_rfl) (by simp) (AllReadyH.cons rfl (fun K hK => ?_) (AllReadyH.nil))
  go_simp
  go_at_call 12
  refine (HG2.out _).mono ?_
  rintro e w8 ⟨rfl, hb8⟩
  refine hK.out _ _ (tr_of (hH.2.2.2.2.2.2.2.2.2.2.out.next hb8)) (fun hH => ?_)
  clear hK K
  clear hb8
  try simp only [Act.put, List.setIfInBounds_toArray, List.set_cons_zero, List.set_cons_succ]
  refine wpAnyH_take (i := 16) (oi := ⟨some 42, _, _, _, _, _⟩) (v := ?v14) rfl (by kernel_rfl) (by kernel_rfl) (by kernel_rfl) (fun _ _ _ h => h) (Or.inl ⟨rfl, ?c14⟩) hH ?r14
  case c14 => (intro w' _; go_simp; (try with_reducible rfl))
  try simp only [Act.put, List.setIfInBounds_toArray, List.set_cons_zero, List.set_cons_succ]
  refine wpAnyH_take (i := 17) (oi := ⟨some 43, _, _, _, _, _⟩) (v := ?v15) rfl (by kernel_rfl) (by kernel_rfl) (by kernel_rfl) (fun _ _ _ h => h) (Or.inl ⟨rfl, ?c15⟩) hH ?r15
  case c15 => (intro w' _; go_simp; (try with_reducible rfl))
  try simp only [Act.put, List.setIfInBounds_toArray, List.set_cons_zero, List.set_cons_succ]
  refine wpAnyH_take (i := 18) (oi := ⟨some 4, _, _, _, _, _⟩) (v := ?v16) rfl (by kernel_rfl) (by kernel_rfl) (by kernel_rfl) (fun _ _ _ h => h) (Or.inl ⟨rfl, ?c16⟩) hH ?r16
  case c16 => (intro w' _; go_simp; (try with_reducible rfl))
  try simp only [Act.put, List.setIfInBounds_toArray, List.set_cons_zero, List.set_cons_succ]
  refine wpAnyH_done (by kernel_rfl) ?_ _
  have HBE := Lib.hid hH.2.2.2.2.2.2.2.2.2.2.out.bel
  clear hH
  go_wp2_with fail
  go_ret
  exact ⟨rfl, HBE.out⟩
theorem rulesPrints_walk (A : Option Addr) (n cap : Nat) (rs : List R) (r : R) (w : World) (he : Env w) (h1 : Rds w w.heap.size (.slice A n cap) rs ∧ ∀ r ∈ rs, r.Ok) (h2 : r.Ok) :
    Calls Tryz.prog 4 #[.slice A n cap, .agg (cellsR r).toArray] w fun e w' => e = .returned (.bool true) ∧ Below w.heap.size w w' := by
  obtain ⟨A', c', hv, hc1, hc2⟩ := h1.1.len
  injection hv with e1 e2 e3
  subst e1 e3
  by_cases h80 : 80 < n
  · exact prints_long A n cap rs r w he e2.symm h1.1 h1.2 h2 (by omega) hc2 h80
  · exact prints_short A n cap rs r w he e2.symm h1.1 h1.2 h2 (by omega) hc2 h80

end Ru
end Go.Proofs.YtfbbkbjiaopnkaaGreatDoor
