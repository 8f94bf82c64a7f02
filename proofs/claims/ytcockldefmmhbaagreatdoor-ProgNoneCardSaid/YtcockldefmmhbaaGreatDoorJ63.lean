/- Several texts of this proof in one file, each in its own namespace. -/
import Derived.Test.YtcockldefmmhbaaGreatDoorJ62
import Derived.Test.YtcockldefmmhbaaGreatDoorJ38
import Derived.Test.YtcockldefmmhbaaGreatDoorFloB
import Derived.Test.YtcockldefmmhbaaGreatDoorJ26
import Derived.Test.YtcockldefmmhbaaGreatDoorJ3
import Derived.Laws.EntriesVeiled
/- Layer 21: the contracts of an op's small methods. (Written by wip/tools/mkPrgC.py.) -/
set_option linter.unusedVariables false
set_option linter.unusedSimpArgs false
set_option maxRecDepth 100000
namespace Go.Proofs.YtcockldefmmhbaaGreatDoor
open Go.ChangeShapes Go.WideShapes Go.ChangeAt Go.RowKit Go.Mtl Go.Lib
namespace Pg
open MemM (Ms lookV loadS swapB swapS holdV lockB lockS unlockS touchS moreS)
open RulM (R)
open AutM (Ke)
open Me (ptr)
open Tb (TAt TM Fw)
/-- What a method answers and leaves. -/
def Yd (b : Bs) (v : Value) (S : Sh) (r : Rn) (e : Ending) (w' : World) : Prop := e = .returned v ∧ Y b S r w'
abbrev U : Value := .tuple #[]
section
variable {b : Bs} {W : World} {S : Sh} {r : Rn}
theorem then_any (H : Y b S r W) (a : At) (n : Nat) (hv : nextV a = fnV n) : Calls Tryz.prog 37 #[ptr b.g, fnV n] W (Yd b U S (goto r a)) := by
  have H1 := Lib.hid (H.set (r' := goto r a) 3 (fnV n) (fun _ _ => hv ▸ rfl) rfl rfl)
  have f3 := H.frozen 3
  have c3 := H.cell 3 (nextV r.at_) (fun _ _ => rfl)
  clear H hv
  go_enter Tryz.func37, Tryz.ntmps37
  go_wp2_with fail
  go_end0
  exact ⟨rfl, H1.out⟩
theorem lockThen_any (H : Y b S r W) (m : Int) (a : At) (n : Nat) (hv : nextV a = fnV n) : Calls Tryz.prog 69 #[ptr b.g, .int .i64 m, fnV n] W (Yd b U S (lockTo r m a)) := by
  have H1 := Lib.hid ((H.set (r' := { r with mu := m }) 4 (.int .i64 m) (fun _ _ => rfl) rfl rfl).set (r' := lockTo r m a) 3 (fnV n) (fun _ _ => hv ▸ rfl) rfl rfl)
  have f3 := H.frozen 3
  have c3 := H.cell 3 (nextV r.at_) (fun _ _ => rfl)
  have f4 := H.frozen 4
  have c4 := H.cell 4 _ (fun _ _ => rfl)
  clear H hv
  go_enter Tryz.func69, Tryz.ntmps69
  go_wp2_with fail
  go_end0
  exact ⟨rfl, H1.out⟩
theorem loadGate_any (H : Y b S r W) (hr : Rm 0 S) : Calls Tryz.prog 71 #[ptr b.g] W (Yd b U (ldS S r 0) (ldG S r)) := by
  have HY := Lib.hid H
  have HL : Hid (S.ms.ls.length ≤ 1000000000000) := hr.l
  clear H hr
  go_enter Tryz.func71, Tryz.ntmps71
  go_wp2_with fail
  refine wp_region_held_drew (S := fun w' => w'.cell? ⟨b.g, 0, none⟩ = some (ptr b.B) ∧ w'.cell? ⟨b.B, 18, none⟩ = some (ptr b.mb) ∧ w'.cell? ⟨b.g, 1, none⟩ = some (.int .i64 r.t)) (by kernel_rfl) (⟨HY.out.drew.cell 0 (ptr b.B) (fun _ _ => rfl), HY.out.drew.shared 18 (ptr b.mb) (fun _ => rfl), HY.out.drew.cell 1 (.int .i64 r.t) (fun _ _ => rfl)⟩) (fun hH => ?_)
  refine wpAnyH_take (i := 0) (oi := ⟨some 2, _, _, _, _, _⟩) (v := ?v1) rfl (by kernel_rfl) (by kernel_rfl) (by kernel_rfl) (fun _ _ _ h => h) (Or.inl ⟨rfl, ?c1⟩) hH ?r1
  case c1 => (intro w' _; go_simp; (try with_reducible rfl))
  try simp only [Act.put, List.setIfInBounds_toArray, List.set_cons_zero, List.set_cons_succ]
  refine wpAnyH_take (i := 1) (oi := ⟨some 3, _, _, _, _, _⟩) (v := ?v2) rfl (by kernel_rfl) (by kernel_rfl) (by kernel_rfl) (fun _ _ _ h => h) (Or.inl ⟨rfl, ?c2⟩) hH ?r2
  case c2 => (intro w' _; go_simp; (try with_reducible rfl))
  try simp only [Act.put, List.setIfInBounds_toArray, List.set_cons_zero, List.set_cons_succ]
  refine wpAnyH_take (i := 2) (oi := ⟨some 4, _, _, _, _, _⟩) (v := ?v3) rfl (by kernel_rfl) (by kernel_rfl) (by kernel_rfl) (fun _ _ _ h => h) (Or.inl ⟨rfl, ?c3⟩) hH ?r3
  case c3 => (intro w' _; go_simp; (try with_reducible rfl))
  try simp only [Act.put, List.setIfInBounds_toArray, List.set_cons_zero, List.set_cons_succ]
  refine wpAnyH_take (i := 3) (oi := ⟨some 5, _, _, _, _, _⟩) (v := ?v4) rfl (by kernel_rfl) (by kernel_rfl) (by kernel_rfl) (fun _ _ _ h => h) (Or.inl ⟨rfl, ?c4⟩) hH ?r4
  case c4 => (intro w' _; go_simp; (try with_reducible rfl))
  try simp only [Act.put, List.setIfInBounds_toArray, List.set_cons_zero, List.set_cons_succ]
  refine wpAnyH_take (i := 4) (oi := ⟨some 6, _, _, _, _, _⟩) (v := ?v5) rfl (by kernel_rfl) (by kernel_rfl) (by kernel_rfl) (fun _ _ _ h => h) (Or.inl ⟨rfl, ?c5⟩) hH ?r5
  case c5 => (intro w' hS; (try dsimp only at hS); go_simp; (try with_reducible rfl))
  try simp only [Act.put, List.setIfInBounds_toArray, List.set_cons_zero, List.set_cons_succ]
  refine wpAnyH_take (i := 5) (oi := ⟨some 7, _, _, _, _, _⟩) (v := ?v6) rfl (by kernel_rfl) (by kernel_rfl) (by kernel_rfl) (fun _ _ _ h => h) (Or.inl ⟨rfl, ?c6⟩) hH ?r6
  case c6 => (intro w' _; go_simp; (try with_reducible rfl))
  try simp only [Act.put, List.setIfInBounds_toArray, List.set_cons_zero, List.set_cons_succ]
  refine wpAnyH_take (i := 6) (oi := ⟨some 8, _, _, _, _, _⟩) (v := ?v7) rfl (by kernel_rfl) (by kernel_rfl) (by kernel_rfl) (fun _ _ _ h => h) (Or.inl ⟨rfl, ?c7⟩) hH ?r7
  case c7 => (intro w' _; go_simp; (try with_reducible rfl))
  try simp only [Act.put, List.setIfInBounds_toArray, List.set_cons_zero, List.set_cons_succ]
  refine wpAnyH_take (i := 7) (oi := ⟨some 9, _, _, _, _, _⟩) (v := ?v8) rfl (by kernel_rfl) (by kernel_rfl) (by kernel_rfl) (fun _ _ _ h => h) (Or.inl ⟨rfl, ?c8⟩) hH ?r8
  case c8 => (intro w' hS; (try dsimp only at hS); go_simp; (try with_reducible rfl))
  try simp only [Act.put, List.setIfInBounds_toArray, List.set_cons_zero, List.set_cons_succ]
  refine wpAnyH_take (i := 8) (oi := ⟨some 10, _, _, _, _, _⟩) (v := ?v9) rfl (by kernel_rfl) (by kernel_rfl) (by kernel_rfl) (fun _ _ _ h => h) (Or.inl ⟨rfl, ?c9⟩) hH ?r9
  case c9 => (intro w' _; go_simp; (try with_reducible rfl))
  try simp only [Act.put, List.setIfInBounds_toArray, List.set_cons_zero, List.set_cons_succ]
  refine wpAnyH_take (i := 9) (oi := ⟨some 11, _, _, _, _, _⟩) (v := ?v10) rfl (by kernel_rfl) (by kernel_rfl) (by kernel_rfl) (fun _ _ _ h => h) (Or.inl ⟨rfl, ?c10⟩) hH ?r10
  case c10 => (intro w' _; go_simp; (try with_reducible rfl))
  try simp only [Act.put, List.setIfInBounds_toArray, List.set_cons_zero, List.set_cons_succ]
  refine wpAnyH_take (i := 10) (oi := ⟨some 12, _, _, _, _, _⟩) (v := ?v11) rfl (by kernel_rfl) (by kernel_rfl) (by kernel_rfl) (fun _ _ _ h => h) (Or.inl ⟨rfl, ?c11⟩) hH ?r11
  case c11 => (intro w' _; go_simp; (try with_reducible rfl))
  try simp only [Act.put, List.setIfInBounds_toArray, List.set_cons_zero, List.set_cons_succ]
  refine wpAnyH_take (i := 11) (oi := ⟨some 13, _, _, _, _, _⟩) (v := ?v12) rfl (by kernel_rfl) (by kernel_rfl) (by kernel_rfl) (fun _ _ _ h => h) (Or.inl ⟨rfl, ?c12⟩) hH ?r12
  case c12 => (intro w' hS; (try dsimp only at hS); go_simp; (try with_reducible rfl))
  try simp only [Act.put, List.setIfInBounds_toArray, List.set_cons_zero, List.set_cons_succ]
  refine wpAnyH_ready (rs := [12]) (by kernel_rfl) (by simp) (AllReadyH.cons rfl (fun K hK => ?_) (AllReadyH.nil))
  go_simp
  go_at_call 109
  refine (HY.out.drew.does (fun Om h => Me.load_any h r.t 0 HL.out)).mono ?_
  rintro e w2 ⟨rfl, hy⟩
  refine hK.out _ _ (⟨hy.cell 0 (ptr b.B) (fun _ _ => rfl), hy.shared 18 (ptr b.mb) (fun _ => rfl), hy.cell 1 (.int .i64 r.t) (fun _ _ => rfl)⟩) (fun hH => ?_)
  clear hK K
  have H2 := Lib.hid hy
  have H3 := Lib.hid (hy.set (r' := ldG S r) 35 (.int .u64 (lookV S.ms 0)) (fun _ _ => rfl) rfl rfl)
  clear hy HY
  try simp only [Act.put, List.setIfInBounds_toArray, List.set_cons_zero, List.set_cons_succ]
  refine wpAnyH_take (i := 13) (oi := ⟨some 15, _, _, _, _, _⟩) (v := ?v13) rfl (by kernel_rfl) (by kernel_rfl) (by kernel_rfl) (fun _ _ _ h => h) (Or.inl ⟨rfl, ?c13⟩) hH ?r13
  case c13 => (intro w' _; go_simp; (try with_reducible rfl))
  try simp only [Act.put, List.setIfInBounds_toArray, List.set_cons_zero, List.set_cons_succ]
  refine wpAnyH_take (i := 14) (oi := ⟨some 16, _, _, _, _, _⟩) (v := ?v14) rfl (by kernel_rfl) (by kernel_rfl) (by kernel_rfl) (fun _ _ _ h => h) (Or.inl ⟨rfl, ?c14⟩) hH ?r14
  case c14 => (intro w' _; go_simp; (try with_reducible rfl))
  try simp only [Act.put, List.setIfInBounds_toArray, List.set_cons_zero, List.set_cons_succ]
  refine wpAnyH_ready (rs := [15]) (by kernel_rfl) (by simp) (AllReadyH.cons rfl (fun K hK => ?_) (AllReadyH.nil))
  have f0 := H2.out.frozen 35
  have c0 := H2.out.cell 35 _ (fun _ _ => rfl)
  go_simp
  clear c0 f0
  refine hK.out _ _ (⟨H3.out.cell 0 (ptr b.B) (fun _ _ => rfl), H3.out.shared 18 (ptr b.mb) (fun _ => rfl), H3.out.cell 1 (.int .i64 r.t) (fun _ _ => rfl)⟩) (fun hH => ?_)
  clear hK K
  try simp only [Act.put, List.setIfInBounds_toArray, List.set_cons_zero, List.set_cons_succ]
  refine wpAnyH_done (by kernel_rfl) ?_ _
  clear hH
  go_wp2_with fail
  go_end0
  exact ⟨rfl, H3.out⟩
theorem loadFlow_any (H : Y b S r W) (hr : Rm 0 S) : Calls Tryz.prog 104 #[ptr b.g] W (Yd b U (ldS S r r.x) (ldF S r)) := by
  have HY := Lib.hid H
  have HL : Hid (S.ms.ls.length ≤ 1000000000000) := hr.l
  clear H hr
  go_enter Tryz.func104, Tryz.ntmps104
  go_wp2_with fail
  refine wp_region_held_drew (S := fun w' => w'.cell? ⟨b.g, 0, none⟩ = some (ptr b.B) ∧ w'.cell? ⟨b.B, 18, none⟩ = some (ptr b.mb) ∧ w'.cell? ⟨b.g, 1, none⟩ = some (.int .i64 r.t) ∧ w'.cell? ⟨b.g, 30, none⟩ = some (.int .i64 r.x)) (by kernel_rfl) (⟨HY.out.drew.cell 0 (ptr b.B) (fun _ _ => rfl), HY.out.drew.shared 18 (ptr b.mb) (fun _ => rfl), HY.out.drew.cell 1 (.int .i64 r.t) (fun _ _ => rfl), HY.out.drew.cell 30 (.int .i64 r.x) (fun _ _ => rfl)⟩) (fun hH => ?_)
  refine wpAnyH_take (i := 0) (oi := ⟨some 2, _, _, _, _, _⟩) (v := ?v1) rfl (by kernel_rfl) (by kernel_rfl) (by kernel_rfl) (fun _ _ _ h => h) (Or.inl ⟨rfl, ?c1⟩) hH ?r1
  case c1 => (intro w' _; go_simp; (try with_reducible rfl))
  try simp only [Act.put, List.setIfInBounds_toArray, List.set_cons_zero, List.set_cons_succ]
  refine wpAnyH_take (i := 1) (oi := ⟨some 3, _, _, _, _, _⟩) (v := ?v2) rfl (by kernel_rfl) (by kernel_rfl) (by kernel_rfl) (fun _ _ _ h => h) (Or.inl ⟨rfl, ?c2⟩) hH ?r2
  case c2 => (intro w' _; go_simp; (try with_reducible rfl))
  try simp only [Act.put, List.setIfInBounds_toArray, List.set_cons_zero, List.set_cons_succ]
  refine wpAnyH_take (i := 2) (oi := ⟨some 4, _, _, _, _, _⟩) (v := ?v3) rfl (by kernel_rfl) (by kernel_rfl) (by kernel_rfl) (fun _ _ _ h => h) (Or.inl ⟨rfl, ?c3⟩) hH ?r3
  case c3 => (intro w' _; go_simp; (try with_reducible rfl))
  try simp only [Act.put, List.setIfInBounds_toArray, List.set_cons_zero, List.set_cons_succ]
  refine wpAnyH_take (i := 3) (oi := ⟨some 5, _, _, _, _, _⟩) (v := ?v4) rfl (by kernel_rfl) (by kernel_rfl) (by kernel_rfl) (fun _ _ _ h => h) (Or.inl ⟨rfl, ?c4⟩) hH ?r4
  case c4 => (intro w' _; go_simp; (try with_reducible rfl))
  try simp only [Act.put, List.setIfInBounds_toArray, List.set_cons_zero, List.set_cons_succ]
  refine wpAnyH_take (i := 4) (oi := ⟨some 6, _, _, _, _, _⟩) (v := ?v5) rfl (by kernel_rfl) (by kernel_rfl) (by kernel_rfl) (fun _ _ _ h => h) (Or.inl ⟨rfl, ?c5⟩) hH ?r5
  case c5 => (intro w' hS; (try dsimp only at hS); go_simp; (try with_reducible rfl))
  try simp only [Act.put, List.setIfInBounds_toArray, List.set_cons_zero, List.set_cons_succ]
  refine wpAnyH_take (i := 5) (oi := ⟨some 7, _, _, _, _, _⟩) (v := ?v6) rfl (by kernel_rfl) (by kernel_rfl) (by kernel_rfl) (fun _ _ _ h => h) (Or.inl ⟨rfl, ?c6⟩) hH ?r6
  case c6 => (intro w' _; go_simp; (try with_reducible rfl))
  try simp only [Act.put, List.setIfInBounds_toArray, List.set_cons_zero, List.set_cons_succ]
  refine wpAnyH_take (i := 6) (oi := ⟨some 8, _, _, _, _, _⟩) (v := ?v7) rfl (by kernel_rfl) (by kernel_rfl) (by kernel_rfl) (fun _ _ _ h => h) (Or.inl ⟨rfl, ?c7⟩) hH ?r7
  case c7 => (intro w' _; go_simp; (try with_reducible rfl))
  try simp only [Act.put, List.setIfInBounds_toArray, List.set_cons_zero, List.set_cons_succ]
  refine wpAnyH_take (i := 7) (oi := ⟨some 9, _, _, _, _, _⟩) (v := ?v8) rfl (by kernel_rfl) (by kernel_rfl) (by kernel_rfl) (fun _ _ _ h => h) (Or.inl ⟨rfl, ?c8⟩) hH ?r8
  case c8 => (intro w' hS; (try dsimp only at hS); go_simp; (try with_reducible rfl))
  try simp only [Act.put, List.setIfInBounds_toArray, List.set_cons_zero, List.set_cons_succ]
  refine wpAnyH_take (i := 8) (oi := ⟨some 10, _, _, _, _, _⟩) (v := ?v9) rfl (by kernel_rfl) (by kernel_rfl) (by kernel_rfl) (fun _ _ _ h => h) (Or.inl ⟨rfl, ?c9⟩) hH ?r9
  case c9 => (intro w' _; go_simp; (try with_reducible rfl))
  try simp only [Act.put, List.setIfInBounds_toArray, List.set_cons_zero, List.set_cons_succ]
  refine wpAnyH_take (i := 9) (oi := ⟨some 11, _, _, _, _, _⟩) (v := ?v10) rfl (by kernel_rfl) (by kernel_rfl) (by kernel_rfl) (fun _ _ _ h => h) (Or.inl ⟨rfl, ?c10⟩) hH ?r10
  case c10 => (intro w' _; go_simp; (try with_reducible rfl))
  try simp only [Act.put, List.setIfInBounds_toArray, List.set_cons_zero, List.set_cons_succ]
  refine wpAnyH_take (i := 10) (oi := ⟨some 12, _, _, _, _, _⟩) (v := ?v11) rfl (by kernel_rfl) (by kernel_rfl) (by kernel_rfl) (fun _ _ _ h => h) (Or.inl ⟨rfl, ?c11⟩) hH ?r11
  case c11 => (intro w' _; go_simp; (try with_reducible rfl))
  try simp only [Act.put, List.setIfInBounds_toArray, List.set_cons_zero, List.set_cons_succ]
  refine wpAnyH_take (i := 11) (oi := ⟨some 13, _, _, _, _, _⟩) (v := ?v12) rfl (by kernel_rfl) (by kernel_rfl) (by kernel_rfl) (fun _ _ _ h => h) (Or.inl ⟨rfl, ?c12⟩) hH ?r12
  case c12 => (intro w' hS; (try dsimp only at hS); go_simp; (try with_reducible rfl))
  try simp only [Act.put, List.setIfInBounds_toArray, List.set_cons_zero, List.set_cons_succ]
  refine wpAnyH_take (i := 12) (oi := ⟨some 14, _, _, _, _, _⟩) (v := ?v13) rfl (by kernel_rfl) (by kernel_rfl) (by kernel_rfl) (fun _ _ _ h => h) (Or.inl ⟨rfl, ?c13⟩) hH ?r13
  case c13 => (intro w' _; go_simp; (try with_reducible rfl))
  try simp only [Act.put, List.setIfInBounds_toArray, List.set_cons_zero, List.set_cons_succ]
  refine wpAnyH_take (i := 13) (oi := ⟨some 15, _, _, _, _, _⟩) (v := ?v14) rfl (by kernel_rfl) (by kernel_rfl) (by kernel_rfl) (fun _ _ _ h => h) (Or.inl ⟨rfl, ?c14⟩) hH ?r14
  case c14 => (intro w' _; go_simp; (try with_reducible rfl))
  try simp only [Act.put, List.setIfInBounds_toArray, List.set_cons_zero, List.set_cons_succ]
  refine wpAnyH_take (i := 14) (oi := ⟨some 16, _, _, _, _, _⟩) (v := ?v15) rfl (by kernel_rfl) (by kernel_rfl) (by kernel_rfl) (fun _ _ _ h => h) (Or.inl ⟨rfl, ?c15⟩) hH ?r15
  case c15 => (intro w' _; go_simp; (try with_reducible rfl))
  try simp only [Act.put, List.setIfInBounds_toArray, List.set_cons_zero, List.set_cons_succ]
  refine wpAnyH_take (i := 15) (oi := ⟨some 17, _, _, _, _, _⟩) (v := ?v16) rfl (by kernel_rfl) (by kernel_rfl) (by kernel_rfl) (fun _ _ _ h => h) (Or.inl ⟨rfl, ?c16⟩) hH ?r16
  case c16 => (intro w' hS; (try dsimp only at hS); go_simp; (try with_reducible rfl))
  try simp only [Act.put, List.setIfInBounds_toArray, List.set_cons_zero, List.set_cons_succ]
  refine wpAnyH_ready (rs := [16]) (by kernel_rfl) (by simp) (AllReadyH.cons rfl (fun K hK => ?_) (AllReadyH.nil))
  go_simp
  go_at_call 109
  refine (HY.out.drew.does (fun Om h => Me.load_any h r.t r.x HL.out)).mono ?_
  rintro e w2 ⟨rfl, hy⟩
  refine hK.out _ _ (⟨hy.cell 0 (ptr b.B) (fun _ _ => rfl), hy.shared 18 (ptr b.mb) (fun _ => rfl), hy.cell 1 (.int .i64 r.t) (fun _ _ => rfl), hy.cell 30 (.int .i64 r.x) (fun _ _ => rfl)⟩) (fun hH => ?_)
  clear hK K
  have H2 := Lib.hid hy
  have H3 := Lib.hid (hy.set (r' := ldF S r) 34 (.int .u64 (lookV S.ms r.x)) (fun _ _ => rfl) rfl rfl)
  clear hy HY
  try simp only [Act.put, List.setIfInBounds_toArray, List.set_cons_zero, List.set_cons_succ]
  refine wpAnyH_take (i := 17) (oi := ⟨some 19, _, _, _, _, _⟩) (v := ?v17) rfl (by kernel_rfl) (by kernel_rfl) (by kernel_rfl) (fun _ _ _ h => h) (Or.inl ⟨rfl, ?c17⟩) hH ?r17
  case c17 => (intro w' _; go_simp; (try with_reducible rfl))
  try simp only [Act.put, List.setIfInBounds_toArray, List.set_cons_zero, List.set_cons_succ]
  refine wpAnyH_take (i := 18) (oi := ⟨some 20, _, _, _, _, _⟩) (v := ?v18) rfl (by kernel_rfl) (by kernel_rfl) (by kernel_rfl) (fun _ _ _ h => h) (Or.inl ⟨rfl, ?c18⟩) hH ?r18
  case c18 => (intro w' _; go_simp; (try with_reducible rfl))
  try simp only [Act.put, List.setIfInBounds_toArray, List.set_cons_zero, List.set_cons_succ]
  refine wpAnyH_ready (rs := [19]) (by kernel_rfl) (by simp) (AllReadyH.cons rfl (fun K hK => ?_) (AllReadyH.nil))
  have f0 := H2.out.frozen 34
  have c0 := H2.out.cell 34 _ (fun _ _ => rfl)
  go_simp
  clear c0 f0
  refine hK.out _ _ (⟨H3.out.cell 0 (ptr b.B) (fun _ _ => rfl), H3.out.shared 18 (ptr b.mb) (fun _ => rfl), H3.out.cell 1 (.int .i64 r.t) (fun _ _ => rfl), H3.out.cell 30 (.int .i64 r.x) (fun _ _ => rfl)⟩) (fun hH => ?_)
  clear hK K
  try simp only [Act.put, List.setIfInBounds_toArray, List.set_cons_zero, List.set_cons_succ]
  refine wpAnyH_done (by kernel_rfl) ?_ _
  clear hH
  go_wp2_with fail
  go_end0
  exact ⟨rfl, H3.out⟩
theorem free_any (H : Y b S r W) (hr : Rm 0 S) (m : Int) : Calls Tryz.prog 151 #[ptr b.g, .int .i64 m] W (Yd b U (freeS S r m) r) := by
  have HY := Lib.hid H
  have HL : Hid (S.ms.ls.length ≤ 1000000000000) := hr.l
  clear H hr
  go_enter Tryz.func151, Tryz.ntmps151
  go_wp2_with fail
  refine wp_region_held_drew (S := fun w' => w'.cell? ⟨b.g, 0, none⟩ = some (ptr b.B) ∧ w'.cell? ⟨b.B, 18, none⟩ = some (ptr b.mb) ∧ w'.cell? ⟨b.g, 1, none⟩ = some (.int .i64 r.t)) (by kernel_rfl) (⟨HY.out.drew.cell 0 (ptr b.B) (fun _ _ => rfl), HY.out.drew.shared 18 (ptr b.mb) (fun _ => rfl), HY.out.drew.cell 1 (.int .i64 r.t) (fun _ _ => rfl)⟩) (fun hH => ?_)
  refine wpAnyH_take (i := 0) (oi := ⟨some 4, _, _, _, _, _⟩) (v := ?v1) rfl (by kernel_rfl) (by kernel_rfl) (by kernel_rfl) (fun _ _ _ h => h) (Or.inl ⟨rfl, ?c1⟩) hH ?r1
  case c1 => (intro w' _; go_simp; (try with_reducible rfl))
  try simp only [Act.put, List.setIfInBounds_toArray, List.set_cons_zero, List.set_cons_succ]
  refine wpAnyH_take (i := 1) (oi := ⟨some 5, _, _, _, _, _⟩) (v := ?v2) rfl (by kernel_rfl) (by kernel_rfl) (by kernel_rfl) (fun _ _ _ h => h) (Or.inl ⟨rfl, ?c2⟩) hH ?r2
  case c2 => (intro w' _; go_simp; (try with_reducible rfl))
  try simp only [Act.put, List.setIfInBounds_toArray, List.set_cons_zero, List.set_cons_succ]
  refine wpAnyH_take (i := 2) (oi := ⟨some 6, _, _, _, _, _⟩) (v := ?v3) rfl (by kernel_rfl) (by kernel_rfl) (by kernel_rfl) (fun _ _ _ h => h) (Or.inl ⟨rfl, ?c3⟩) hH ?r3
  case c3 => (intro w' _; go_simp; (try with_reducible rfl))
  try simp only [Act.put, List.setIfInBounds_toArray, List.set_cons_zero, List.set_cons_succ]
  refine wpAnyH_take (i := 3) (oi := ⟨some 7, _, _, _, _, _⟩) (v := ?v4) rfl (by kernel_rfl) (by kernel_rfl) (by kernel_rfl) (fun _ _ _ h => h) (Or.inl ⟨rfl, ?c4⟩) hH ?r4
  case c4 => (intro w' hS; (try dsimp only at hS); go_simp; (try with_reducible rfl))
  try simp only [Act.put, List.setIfInBounds_toArray, List.set_cons_zero, List.set_cons_succ]
  refine wpAnyH_take (i := 4) (oi := ⟨some 8, _, _, _, _, _⟩) (v := ?v5) rfl (by kernel_rfl) (by kernel_rfl) (by kernel_rfl) (fun _ _ _ h => h) (Or.inl ⟨rfl, ?c5⟩) hH ?r5
  case c5 => (intro w' _; go_simp; (try with_reducible rfl))
  try simp only [Act.put, List.setIfInBounds_toArray, List.set_cons_zero, List.set_cons_succ]
  refine wpAnyH_take (i := 5) (oi := ⟨some 9, _, _, _, _, _⟩) (v := ?v6) rfl (by kernel_rfl) (by kernel_rfl) (by kernel_rfl) (fun _ _ _ h => h) (Or.inl ⟨rfl, ?c6⟩) hH ?r6
  case c6 => (intro w' _; go_simp; (try with_reducible rfl))
  try simp only [Act.put, List.setIfInBounds_toArray, List.set_cons_zero, List.set_cons_succ]
  refine wpAnyH_take (i := 6) (oi := ⟨some 10, _, _, _, _, _⟩) (v := ?v7) rfl (by kernel_rfl) (by kernel_rfl) (by kernel_rfl) (fun _ _ _ h => h) (Or.inl ⟨rfl, ?c7⟩) hH ?r7
  case c7 => (intro w' hS; (try dsimp only at hS); go_simp; (try with_reducible rfl))
  try simp only [Act.put, List.setIfInBounds_toArray, List.set_cons_zero, List.set_cons_succ]
  refine wpAnyH_take (i := 7) (oi := ⟨some 11, _, _, _, _, _⟩) (v := ?v8) rfl (by kernel_rfl) (by kernel_rfl) (by kernel_rfl) (fun _ _ _ h => h) (Or.inl ⟨rfl, ?c8⟩) hH ?r8
  case c8 => (intro w' _; go_simp; (try with_reducible rfl))
  try simp only [Act.put, List.setIfInBounds_toArray, List.set_cons_zero, List.set_cons_succ]
  refine wpAnyH_take (i := 8) (oi := ⟨some 12, _, _, _, _, _⟩) (v := ?v9) rfl (by kernel_rfl) (by kernel_rfl) (by kernel_rfl) (fun _ _ _ h => h) (Or.inl ⟨rfl, ?c9⟩) hH ?r9
  case c9 => (intro w' _; go_simp; (try with_reducible rfl))
  try simp only [Act.put, List.setIfInBounds_toArray, List.set_cons_zero, List.set_cons_succ]
  refine wpAnyH_take (i := 9) (oi := ⟨some 13, _, _, _, _, _⟩) (v := ?v10) rfl (by kernel_rfl) (by kernel_rfl) (by kernel_rfl) (fun _ _ _ h => h) (Or.inl ⟨rfl, ?c10⟩) hH ?r10
  case c10 => (intro w' _; go_simp; (try with_reducible rfl))
  try simp only [Act.put, List.setIfInBounds_toArray, List.set_cons_zero, List.set_cons_succ]
  refine wpAnyH_take (i := 10) (oi := ⟨some 14, _, _, _, _, _⟩) (v := ?v11) rfl (by kernel_rfl) (by kernel_rfl) (by kernel_rfl) (fun _ _ _ h => h) (Or.inl ⟨rfl, ?c11⟩) hH ?r11
  case c11 => (intro w' hS; (try dsimp only at hS); go_simp; (try with_reducible rfl))
  try simp only [Act.put, List.setIfInBounds_toArray, List.set_cons_zero, List.set_cons_succ]
  refine wpAnyH_take (i := 11) (oi := ⟨some 15, _, _, _, _, _⟩) (v := ?v12) rfl (by kernel_rfl) (by kernel_rfl) (by kernel_rfl) (fun _ _ _ h => h) (Or.inl ⟨rfl, ?c12⟩) hH ?r12
  case c12 => (intro w' _; go_simp; (try with_reducible rfl))
  try simp only [Act.put, List.setIfInBounds_toArray, List.set_cons_zero, List.set_cons_succ]
  refine wpAnyH_ready (rs := [12]) (by kernel_rfl) (by simp) (AllReadyH.cons rfl (fun K hK => ?_) (AllReadyH.nil))
  go_simp
  go_at_call 204
  refine (HY.out.drew.does (fun Om h => Me.unlock_any h r.t m HL.out)).mono ?_
  rintro e w2 ⟨rfl, hy⟩
  refine hK.out _ _ (⟨hy.cell 0 (ptr b.B) (fun _ _ => rfl), hy.shared 18 (ptr b.mb) (fun _ => rfl), hy.cell 1 (.int .i64 r.t) (fun _ _ => rfl)⟩) (fun hH => ?_)
  clear hK K
  have H2 := Lib.hid hy
  clear hy HY
  try simp only [Act.put, List.setIfInBounds_toArray, List.set_cons_zero, List.set_cons_succ]
  refine wpAnyH_done (by kernel_rfl) ?_ _
  clear hH
  go_wp2_with fail
  go_end0
  exact ⟨rfl, H2.out⟩
theorem swapGate_any (H : Y b S r W) (hr : Rm 0 S) (now : Int) (hn : W64 now) : Calls Tryz.prog 111 #[ptr b.g, .int .u64 now] W (Yd b (.bool (swapB S.ms (0) r.wg)) (swS S r (0) r.wg now) r) := by
  have HN := Lib.hid hn
  clear hn
  have HY := Lib.hid H
  have HL : Hid (S.ms.ls.length ≤ 1000000000000) := hr.l
  clear H hr
  go_enter Tryz.func111, Tryz.ntmps111
  go_wp2_with fail
  refine wp_region_held_drew (S := fun w' => w'.cell? ⟨b.g, 0, none⟩ = some (ptr b.B) ∧ w'.cell? ⟨b.B, 18, none⟩ = some (ptr b.mb) ∧ w'.cell? ⟨b.g, 1, none⟩ = some (.int .i64 r.t) ∧ w'.cell? ⟨b.g, 35, none⟩ = some (.int .u64 r.wg)) (by kernel_rfl) (⟨HY.out.drew.cell 0 (ptr b.B) (fun _ _ => rfl), HY.out.drew.shared 18 (ptr b.mb) (fun _ => rfl), HY.out.drew.cell 1 (.int .i64 r.t) (fun _ _ => rfl), HY.out.drew.cell 35 (.int .u64 r.wg) (fun _ _ => rfl)⟩) (fun hH => ?_)
  refine wpAnyH_take (i := 0) (oi := ⟨some 5, _, _, _, _, _⟩) (v := ?v1) rfl (by kernel_rfl) (by kernel_rfl) (by kernel_rfl) (fun _ _ _ h => h) (Or.inl ⟨rfl, ?c1⟩) hH ?r1
  case c1 => (intro w' _; go_simp; (try with_reducible rfl))
  try simp only [Act.put, List.setIfInBounds_toArray, List.set_cons_zero, List.set_cons_succ]
  refine wpAnyH_take (i := 1) (oi := ⟨some 6, _, _, _, _, _⟩) (v := ?v2) rfl (by kernel_rfl) (by kernel_rfl) (by kernel_rfl) (fun _ _ _ h => h) (Or.inl ⟨rfl, ?c2⟩) hH ?r2
  case c2 => (intro w' _; go_simp; (try with_reducible rfl))
  try simp only [Act.put, List.setIfInBounds_toArray, List.set_cons_zero, List.set_cons_succ]
  refine wpAnyH_take (i := 2) (oi := ⟨some 7, _, _, _, _, _⟩) (v := ?v3) rfl (by kernel_rfl) (by kernel_rfl) (by kernel_rfl) (fun _ _ _ h => h) (Or.inl ⟨rfl, ?c3⟩) hH ?r3
  case c3 => (intro w' _; go_simp; (try with_reducible rfl))
  try simp only [Act.put, List.setIfInBounds_toArray, List.set_cons_zero, List.set_cons_succ]
  refine wpAnyH_take (i := 3) (oi := ⟨some 8, _, _, _, _, _⟩) (v := ?v4) rfl (by kernel_rfl) (by kernel_rfl) (by kernel_rfl) (fun _ _ _ h => h) (Or.inl ⟨rfl, ?c4⟩) hH ?r4
  case c4 => (intro w' hS; (try dsimp only at hS); go_simp; (try with_reducible rfl))
  try simp only [Act.put, List.setIfInBounds_toArray, List.set_cons_zero, List.set_cons_succ]
  refine wpAnyH_take (i := 4) (oi := ⟨some 9, _, _, _, _, _⟩) (v := ?v5) rfl (by kernel_rfl) (by kernel_rfl) (by kernel_rfl) (fun _ _ _ h => h) (Or.inl ⟨rfl, ?c5⟩) hH ?r5
  case c5 => (intro w' _; go_simp; (try with_reducible rfl))
  try simp only [Act.put, List.setIfInBounds_toArray, List.set_cons_zero, List.set_cons_succ]
  refine wpAnyH_take (i := 5) (oi := ⟨some 10, _, _, _, _, _⟩) (v := ?v6) rfl (by kernel_rfl) (by kernel_rfl) (by kernel_rfl) (fun _ _ _ h => h) (Or.inl ⟨rfl, ?c6⟩) hH ?r6
  case c6 => (intro w' _; go_simp; (try with_reducible rfl))
  try simp only [Act.put, List.setIfInBounds_toArray, List.set_cons_zero, List.set_cons_succ]
  refine wpAnyH_take (i := 6) (oi := ⟨some 11, _, _, _, _, _⟩) (v := ?v7) rfl (by kernel_rfl) (by kernel_rfl) (by kernel_rfl) (fun _ _ _ h => h) (Or.inl ⟨rfl, ?c7⟩) hH ?r7
  case c7 => (intro w' hS; (try dsimp only at hS); go_simp; (try with_reducible rfl))
  try simp only [Act.put, List.setIfInBounds_toArray, List.set_cons_zero, List.set_cons_succ]
  refine wpAnyH_take (i := 7) (oi := ⟨some 12, _, _, _, _, _⟩) (v := ?v8) rfl (by kernel_rfl) (by kernel_rfl) (by kernel_rfl) (fun _ _ _ h => h) (Or.inl ⟨rfl, ?c8⟩) hH ?r8
  case c8 => (intro w' _; go_simp; (try with_reducible rfl))
  try simp only [Act.put, List.setIfInBounds_toArray, List.set_cons_zero, List.set_cons_succ]
  refine wpAnyH_take (i := 8) (oi := ⟨some 13, _, _, _, _, _⟩) (v := ?v9) rfl (by kernel_rfl) (by kernel_rfl) (by kernel_rfl) (fun _ _ _ h => h) (Or.inl ⟨rfl, ?c9⟩) hH ?r9
  case c9 => (intro w' _; go_simp; (try with_reducible rfl))
  try simp only [Act.put, List.setIfInBounds_toArray, List.set_cons_zero, List.set_cons_succ]
  refine wpAnyH_take (i := 9) (oi := ⟨some 14, _, _, _, _, _⟩) (v := ?v10) rfl (by kernel_rfl) (by kernel_rfl) (by kernel_rfl) (fun _ _ _ h => h) (Or.inl ⟨rfl, ?c10⟩) hH ?r10
  case c10 => (intro w' _; go_simp; (try with_reducible rfl))
  try simp only [Act.put, List.setIfInBounds_toArray, List.set_cons_zero, List.set_cons_succ]
  refine wpAnyH_take (i := 10) (oi := ⟨some 15, _, _, _, _, _⟩) (v := ?v11) rfl (by kernel_rfl) (by kernel_rfl) (by kernel_rfl) (fun _ _ _ h => h) (Or.inl ⟨rfl, ?c11⟩) hH ?r11
  case c11 => (intro w' hS; (try dsimp only at hS); go_simp; (try with_reducible rfl))
  try simp only [Act.put, List.setIfInBounds_toArray, List.set_cons_zero, List.set_cons_succ]
  refine wpAnyH_take (i := 11) (oi := ⟨some 16, _, _, _, _, _⟩) (v := ?v12) rfl (by kernel_rfl) (by kernel_rfl) (by kernel_rfl) (fun _ _ _ h => h) (Or.inl ⟨rfl, ?c12⟩) hH ?r12
  case c12 => (intro w' _; go_simp; (try with_reducible rfl))
  try simp only [Act.put, List.setIfInBounds_toArray, List.set_cons_zero, List.set_cons_succ]
  refine wpAnyH_take (i := 12) (oi := ⟨some 17, _, _, _, _, _⟩) (v := ?v13) rfl (by kernel_rfl) (by kernel_rfl) (by kernel_rfl) (fun _ _ _ h => h) (Or.inl ⟨rfl, ?c13⟩) hH ?r13
  case c13 => (intro w' _; go_simp; (try with_reducible rfl))
  try simp only [Act.put, List.setIfInBounds_toArray, List.set_cons_zero, List.set_cons_succ]
  refine wpAnyH_take (i := 13) (oi := ⟨some 18, _, _, _, _, _⟩) (v := ?v14) rfl (by kernel_rfl) (by kernel_rfl) (by kernel_rfl) (fun _ _ _ h => h) (Or.inl ⟨rfl, ?c14⟩) hH ?r14
  case c14 => (intro w' _; go_simp; (try with_reducible rfl))
  try simp only [Act.put, List.setIfInBounds_toArray, List.set_cons_zero, List.set_cons_succ]
  refine wpAnyH_take (i := 14) (oi := ⟨some 19, _, _, _, _, _⟩) (v := ?v15) rfl (by kernel_rfl) (by kernel_rfl) (by kernel_rfl) (fun _ _ _ h => h) (Or.inl ⟨rfl, ?c15⟩) hH ?r15
  case c15 => (intro w' hS; (try dsimp only at hS); go_simp; (try with_reducible rfl))
  try simp only [Act.put, List.setIfInBounds_toArray, List.set_cons_zero, List.set_cons_succ]
  refine wpAnyH_take (i := 15) (oi := ⟨some 20, _, _, _, _, _⟩) (v := ?v16) rfl (by kernel_rfl) (by kernel_rfl) (by kernel_rfl) (fun _ _ _ h => h) (Or.inl ⟨rfl, ?c16⟩) hH ?r16
  case c16 => (intro w' _; go_simp; (try with_reducible rfl))
  try simp only [Act.put, List.setIfInBounds_toArray, List.set_cons_zero, List.set_cons_succ]
  refine wpAnyH_ready (rs := [16]) (by kernel_rfl) (by simp) (AllReadyH.cons rfl (fun K hK => ?_) (AllReadyH.nil))
  go_simp
  go_at_call 154
  refine (HY.out.drew.does (fun Om h => Me.swap_any h r.t (0) r.wg now HN.out HL.out)).mono ?_
  rintro e w2 ⟨rfl, hy⟩
  refine hK.out _ _ (⟨hy.cell 0 (ptr b.B) (fun _ _ => rfl), hy.shared 18 (ptr b.mb) (fun _ => rfl), hy.cell 1 (.int .i64 r.t) (fun _ _ => rfl), hy.cell 35 (.int .u64 r.wg) (fun _ _ => rfl)⟩) (fun hH => ?_)
  clear hK K
  have H2 := Lib.hid hy
  clear hy HY
  try simp only [Act.put, List.setIfInBounds_toArray, List.set_cons_zero, List.set_cons_succ]
  refine wpAnyH_take (i := 17) (oi := ⟨some 4, _, _, _, _, _⟩) (v := ?v17) rfl (by kernel_rfl) (by kernel_rfl) (by kernel_rfl) (fun _ _ _ h => h) (Or.inl ⟨rfl, ?c17⟩) hH ?r17
  case c17 => (intro w' _; go_simp; (try with_reducible rfl))
  try simp only [Act.put, List.setIfInBounds_toArray, List.set_cons_zero, List.set_cons_succ]
  refine wpAnyH_done (by kernel_rfl) ?_ _
  clear hH
  go_wp2_with fail
  go_ret
  exact ⟨rfl, H2.out⟩
theorem swapFlow_any (H : Y b S r W) (hr : Rm 0 S) (now : Int) (hn : W64 now) : Calls Tryz.prog 168 #[ptr b.g, .int .u64 now] W (Yd b (.bool (swapB S.ms (r.x) r.wf)) (swS S r (r.x) r.wf now) r) := by
  have HN := Lib.hid hn
  clear hn
  have HY := Lib.hid H
  have HL : Hid (S.ms.ls.length ≤ 1000000000000) := hr.l
  clear H hr
  go_enter Tryz.func168, Tryz.ntmps168
  go_wp2_with fail
  refine wp_region_held_drew (S := fun w' => w'.cell? ⟨b.g, 0, none⟩ = some (ptr b.B) ∧ w'.cell? ⟨b.B, 18, none⟩ = some (ptr b.mb) ∧ w'.cell? ⟨b.g, 1, none⟩ = some (.int .i64 r.t) ∧ w'.cell? ⟨b.g, 34, none⟩ = some (.int .u64 r.wf) ∧ w'.cell? ⟨b.g, 30, none⟩ = some (.int .i64 r.x)) (by kernel_rfl) (⟨HY.out.drew.cell 0 (ptr b.B) (fun _ _ => rfl), HY.out.drew.shared 18 (ptr b.mb) (fun _ => rfl), HY.out.drew.cell 1 (.int .i64 r.t) (fun _ _ => rfl), HY.out.drew.cell 34 (.int .u64 r.wf) (fun _ _ => rfl), HY.out.drew.cell 30 (.int .i64 r.x) (fun _ _ => rfl)⟩) (fun hH => ?_)
  refine wpAnyH_take (i := 0) (oi := ⟨some 5, _, _, _, _, _⟩) (v := ?v1) rfl (by kernel_rfl) (by kernel_rfl) (by kernel_rfl) (fun _ _ _ h => h) (Or.inl ⟨rfl, ?c1⟩) hH ?r1
  case c1 => (intro w' _; go_simp; (try with_reducible rfl))
  try simp only [Act.put, List.setIfInBounds_toArray, List.set_cons_zero, List.set_cons_succ]
  refine wpAnyH_take (i := 1) (oi := ⟨some 6, _, _, _, _, _⟩) (v := ?v2) rfl (by kernel_rfl) (by kernel_rfl) (by kernel_rfl) (fun _ _ _ h => h) (Or.inl ⟨rfl, ?c2⟩) hH ?r2
  case c2 => (intro w' _; go_simp; (try with_reducible rfl))
  try simp only [Act.put, List.setIfInBounds_toArray, List.set_cons_zero, List.set_cons_succ]
  refine wpAnyH_take (i := 2) (oi := ⟨some 7, _, _, _, _, _⟩) (v := ?v3) rfl (by kernel_rfl) (by kernel_rfl) (by kernel_rfl) (fun _ _ _ h => h) (Or.inl ⟨rfl, ?c3⟩) hH ?r3
  case c3 => (intro w' _; go_simp; (try with_reducible rfl))
  try simp only [Act.put, List.setIfInBounds_toArray, List.set_cons_zero, List.set_cons_succ]
  refine wpAnyH_take (i := 3) (oi := ⟨some 8, _, _, _, _, _⟩) (v := ?v4) rfl (by kernel_rfl) (by kernel_rfl) (by kernel_rfl) (fun _ _ _ h => h) (Or.inl ⟨rfl, ?c4⟩) hH ?r4
  case c4 => (intro w' hS; (try dsimp only at hS); go_simp; (try with_reducible rfl))
  try simp only [Act.put, List.setIfInBounds_toArray, List.set_cons_zero, List.set_cons_succ]
  refine wpAnyH_take (i := 4) (oi := ⟨some 9, _, _, _, _, _⟩) (v := ?v5) rfl (by kernel_rfl) (by kernel_rfl) (by kernel_rfl) (fun _ _ _ h => h) (Or.inl ⟨rfl, ?c5⟩) hH ?r5
  case c5 => (intro w' _; go_simp; (try with_reducible rfl))
  try simp only [Act.put, List.setIfInBounds_toArray, List.set_cons_zero, List.set_cons_succ]
  refine wpAnyH_take (i := 5) (oi := ⟨some 10, _, _, _, _, _⟩) (v := ?v6) rfl (by kernel_rfl) (by kernel_rfl) (by kernel_rfl) (fun _ _ _ h => h) (Or.inl ⟨rfl, ?c6⟩) hH ?r6
  case c6 => (intro w' _; go_simp; (try with_reducible rfl))
  try simp only [Act.put, List.setIfInBounds_toArray, List.set_cons_zero, List.set_cons_succ]
  refine wpAnyH_take (i := 6) (oi := ⟨some 11, _, _, _, _, _⟩) (v := ?v7) rfl (by kernel_rfl) (by kernel_rfl) (by kernel_rfl) (fun _ _ _ h => h) (Or.inl ⟨rfl, ?c7⟩) hH ?r7
  case c7 => (intro w' hS; (try dsimp only at hS); go_simp; (try with_reducible rfl))
  try simp only [Act.put, List.setIfInBounds_toArray, List.set_cons_zero, List.set_cons_succ]
  refine wpAnyH_take (i := 7) (oi := ⟨some 12, _, _, _, _, _⟩) (v := ?v8) rfl (by kernel_rfl) (by kernel_rfl) (by kernel_rfl) (fun _ _ _ h => h) (Or.inl ⟨rfl, ?c8⟩) hH ?r8
  case c8 => (intro w' _; go_simp; (try with_reducible rfl))
  try simp only [Act.put, List.setIfInBounds_toArray, List.set_cons_zero, List.set_cons_succ]
  refine wpAnyH_take (i := 8) (oi := ⟨some 13, _, _, _, _, _⟩) (v := ?v9) rfl (by kernel_rfl) (by kernel_rfl) (by kernel_rfl) (fun _ _ _ h => h) (Or.inl ⟨rfl, ?c9⟩) hH ?r9
  case c9 => (intro w' _; go_simp; (try with_reducible rfl))
  try simp only [Act.put, List.setIfInBounds_toArray, List.set_cons_zero, List.set_cons_succ]
  refine wpAnyH_take (i := 9) (oi := ⟨some 14, _, _, _, _, _⟩) (v := ?v10) rfl (by kernel_rfl) (by kernel_rfl) (by kernel_rfl) (fun _ _ _ h => h) (Or.inl ⟨rfl, ?c10⟩) hH ?r10
  case c10 => (intro w' _; go_simp; (try with_reducible rfl))
  try simp only [Act.put, List.setIfInBounds_toArray, List.set_cons_zero, List.set_cons_succ]
  refine wpAnyH_take (i := 10) (oi := ⟨some 15, _, _, _, _, _⟩) (v := ?v11) rfl (by kernel_rfl) (by kernel_rfl) (by kernel_rfl) (fun _ _ _ h => h) (Or.inl ⟨rfl, ?c11⟩) hH ?r11
  case c11 => (intro w' hS; (try dsimp only at hS); go_simp; (try with_reducible rfl))
  try simp only [Act.put, List.setIfInBounds_toArray, List.set_cons_zero, List.set_cons_succ]
  refine wpAnyH_take (i := 11) (oi := ⟨some 16, _, _, _, _, _⟩) (v := ?v12) rfl (by kernel_rfl) (by kernel_rfl) (by kernel_rfl) (fun _ _ _ h => h) (Or.inl ⟨rfl, ?c12⟩) hH ?r12
  case c12 => (intro w' _; go_simp; (try with_reducible rfl))
  try simp only [Act.put, List.setIfInBounds_toArray, List.set_cons_zero, List.set_cons_succ]
  refine wpAnyH_take (i := 12) (oi := ⟨some 17, _, _, _, _, _⟩) (v := ?v13) rfl (by kernel_rfl) (by kernel_rfl) (by kernel_rfl) (fun _ _ _ h => h) (Or.inl ⟨rfl, ?c13⟩) hH ?r13
  case c13 => (intro w' _; go_simp; (try with_reducible rfl))
  try simp only [Act.put, List.setIfInBounds_toArray, List.set_cons_zero, List.set_cons_succ]
  refine wpAnyH_take (i := 13) (oi := ⟨some 18, _, _, _, _, _⟩) (v := ?v14) rfl (by kernel_rfl) (by kernel_rfl) (by kernel_rfl) (fun _ _ _ h => h) (Or.inl ⟨rfl, ?c14⟩) hH ?r14
  case c14 => (intro w' _; go_simp; (try with_reducible rfl))
  try simp only [Act.put, List.setIfInBounds_toArray, List.set_cons_zero, List.set_cons_succ]
  refine wpAnyH_take (i := 14) (oi := ⟨some 19, _, _, _, _, _⟩) (v := ?v15) rfl (by kernel_rfl) (by kernel_rfl) (by kernel_rfl) (fun _ _ _ h => h) (Or.inl ⟨rfl, ?c15⟩) hH ?r15
  case c15 => (intro w' hS; (try dsimp only at hS); go_simp; (try with_reducible rfl))
  try simp only [Act.put, List.setIfInBounds_toArray, List.set_cons_zero, List.set_cons_succ]
  refine wpAnyH_take (i := 15) (oi := ⟨some 20, _, _, _, _, _⟩) (v := ?v16) rfl (by kernel_rfl) (by kernel_rfl) (by kernel_rfl) (fun _ _ _ h => h) (Or.inl ⟨rfl, ?c16⟩) hH ?r16
  case c16 => (intro w' _; go_simp; (try with_reducible rfl))
  try simp only [Act.put, List.setIfInBounds_toArray, List.set_cons_zero, List.set_cons_succ]
  refine wpAnyH_take (i := 16) (oi := ⟨some 21, _, _, _, _, _⟩) (v := ?v17) rfl (by kernel_rfl) (by kernel_rfl) (by kernel_rfl) (fun _ _ _ h => h) (Or.inl ⟨rfl, ?c17⟩) hH ?r17
  case c17 => (intro w' _; go_simp; (try with_reducible rfl))
  try simp only [Act.put, List.setIfInBounds_toArray, List.set_cons_zero, List.set_cons_succ]
  refine wpAnyH_take (i := 17) (oi := ⟨some 22, _, _, _, _, _⟩) (v := ?v18) rfl (by kernel_rfl) (by kernel_rfl) (by kernel_rfl) (fun _ _ _ h => h) (Or.inl ⟨rfl, ?c18⟩) hH ?r18
  case c18 => (intro w' _; go_simp; (try with_reducible rfl))
  try simp only [Act.put, List.setIfInBounds_toArray, List.set_cons_zero, List.set_cons_succ]
  refine wpAnyH_take (i := 18) (oi := ⟨some 23, _, _, _, _, _⟩) (v := ?v19) rfl (by kernel_rfl) (by kernel_rfl) (by kernel_rfl) (fun _ _ _ h => h) (Or.inl ⟨rfl, ?c19⟩) hH ?r19
  case c19 => (intro w' hS; (try dsimp only at hS); go_simp; (try with_reducible rfl))
  try simp only [Act.put, List.setIfInBounds_toArray, List.set_cons_zero, List.set_cons_succ]
  refine wpAnyH_take (i := 19) (oi := ⟨some 24, _, _, _, _, _⟩) (v := ?v20) rfl (by kernel_rfl) (by kernel_rfl) (by kernel_rfl) (fun _ _ _ h => h) (Or.inl ⟨rfl, ?c20⟩) hH ?r20
  case c20 => (intro w' _; go_simp; (try with_reducible rfl))
  try simp only [Act.put, List.setIfInBounds_toArray, List.set_cons_zero, List.set_cons_succ]
  refine wpAnyH_ready (rs := [20]) (by kernel_rfl) (by simp) (AllReadyH.cons rfl (fun K hK => ?_) (AllReadyH.nil))
  go_simp
  go_at_call 154
  refine (HY.out.drew.does (fun Om h => Me.swap_any h r.t (r.x) r.wf now HN.out HL.out)).mono ?_
  rintro e w2 ⟨rfl, hy⟩
  refine hK.out _ _ (⟨hy.cell 0 (ptr b.B) (fun _ _ => rfl), hy.shared 18 (ptr b.mb) (fun _ => rfl), hy.cell 1 (.int .i64 r.t) (fun _ _ => rfl), hy.cell 34 (.int .u64 r.wf) (fun _ _ => rfl), hy.cell 30 (.int .i64 r.x) (fun _ _ => rfl)⟩) (fun hH => ?_)
  clear hK K
  have H2 := Lib.hid hy
  clear hy HY
  try simp only [Act.put, List.setIfInBounds_toArray, List.set_cons_zero, List.set_cons_succ]
  refine wpAnyH_take (i := 21) (oi := ⟨some 4, _, _, _, _, _⟩) (v := ?v21) rfl (by kernel_rfl) (by kernel_rfl) (by kernel_rfl) (fun _ _ _ h => h) (Or.inl ⟨rfl, ?c21⟩) hH ?r21
  case c21 => (intro w' _; go_simp; (try with_reducible rfl))
  try simp only [Act.put, List.setIfInBounds_toArray, List.set_cons_zero, List.set_cons_succ]
  refine wpAnyH_done (by kernel_rfl) ?_ _
  clear hH
  go_wp2_with fail
  go_ret
  exact ⟨rfl, H2.out⟩
/-! The words' functions, at any word. -/
theorem unpackG {x : Int} (h : W64 x) (W : World) (he : Env W) : Calls Tryz.prog 46 #[.int .u64 x] W fun e w' => e = .returned (.agg #[.int .i64 (vG x), .int .i64 (kG x), .int .i64 (cG x)]) ∧ Below W.heap.size W w' := by
  have := Ga.unpack_any (fitG h) W he.ga
  rwa [← isG h] at this
theorem unpackF {x : Int} (h : W64 x) (W : World) (he : Env W) : Calls Tryz.prog 205 #[.int .u64 x] W fun e w' => e = .returned (.agg #[.int .i64 (sF x), .int .i64 (nF x), .int .i64 (cF x)]) ∧ Below W.heap.size W w' := by
  have := Fl.unpack_any (fitF h) W he.fl
  rwa [← isF h] at this
theorem overF {x : Int} (h : W64 x) (c : Int) (W : World) (he : Env W) : Calls Tryz.prog 193 #[.int .u64 x, .int .i64 c] W fun e w' => e = .returned (.bool (overW x c)) ∧ Below W.heap.size W w' := by
  have := Fl.over_any (fitF h) c W he.fl
  rwa [← isF h] at this
theorem below_drews {W w' : World} (h : ∃ n, w' = W.drewN n) : Below W.heap.size W w' := by
  obtain ⟨n, rfl⟩ := h
  exact (Below.refl _ W).drews n
theorem nextF {x : Int} (h : W64 x) (s u : Int) (W : World) (he : Env W) : Calls Tryz.prog 199 #[.int .u64 x, .int .i64 s, .int .i64 u] W fun e w' => e = .returned (.int .u64 (nextW x s u)) ∧ Below W.heap.size W w' := by
  have := Fl.next_any (fitF h) s u W he.fl
  rw [← isF h] at this
  exact this.mono fun e w' h => ⟨h.1, below_drews h.2⟩
theorem deadF (W : World) (he : Env W) : Calls Tryz.prog 169 #[] W fun e w' => e = .returned (.int .u64 deadW) ∧ Below W.heap.size W w' :=
  (Fl.dead_any W he.fl).mono fun e w' h => ⟨h.1, below_drews h.2⟩
theorem tickG {x : Int} (h : W64 x) (n : Int) (h0 : -9223372036854775808 ≤ n) (h1 : n ≤ 9223372036854775807) (W : World) (he : Env W) : Calls Tryz.prog 110 #[.int .u64 x, .int .i64 n] W fun e w' => e = .returned (.int .u64 (tickW x n)) ∧ Below W.heap.size W w' := by
  have := Ga.tick_any (fitG h) h0 h1 W he.ga
  rw [← isG h] at this
  exact this.mono fun e w' h => ⟨h.1, below_drews h.2⟩
theorem enterG {x : Int} (h : W64 x) (N : Int) (W : World) (he : Env W) : Calls Tryz.prog 197 #[.int .u64 x, .int .i64 N] W fun e w' => e = .returned (.tuple #[.int .u64 (enterW N x), .bool (enterB N x)]) ∧ Below W.heap.size W w' := by
  cases hb : enterB N x with
  | true =>
    have h2 := of_decide_eq_true hb
    have := Ga.enter_any (l := N) (fitG h) (ok := true) (x := kG x + 1) (.inl ⟨rfl, rfl, h2.1, h2.2⟩) W he.ga
    rw [← isG h] at this
    unfold enterW; rw [hb]; exact this
  | false =>
    have h2 := of_decide_eq_false hb
    have := Ga.enter_any (l := N) (fitG h) (ok := false) (x := kG x) (.inr ⟨rfl, rfl, by omega⟩) W he.ga
    unfold enterW; rw [hb]
    unfold Ga.stepV at this
    rw [← isG h] at this
    exact this
theorem leaveG {x : Int} (h : W64 x) (W : World) (he : Env W) : Calls Tryz.prog 269 #[.int .u64 x] W fun e w' => e = .returned (.tuple #[.int .u64 (leaveW x), .bool (decide (kG x ≠ 0))]) ∧ Below W.heap.size W w' := by
  by_cases hb : kG x = 0
  · have := Ga.leave_any (fitG h) (ok := false) (x := kG x) (.inr ⟨rfl, rfl, hb⟩) W he.ga
    unfold leaveW; rw [if_pos hb, decide_eq_false (by simpa using hb)]
    unfold Ga.stepV at this
    rw [← isG h] at this
    exact this
  · have := Ga.leave_any (fitG h) (ok := true) (x := kG x - 1) (.inl ⟨rfl, rfl, hb⟩) W he.ga
    unfold leaveW; rw [if_neg hb, decide_eq_true hb]
    rw [← isG h] at this
    exact this
theorem swapG {x : Int} (h : W64 x) (W : World) (he : Env W) : Calls Tryz.prog 163 #[.int .u64 x] W fun e w' => e = .returned (.tuple #[.int .u64 (swapW x), .bool (decide (vG x ≠ 4095))]) ∧ Below W.heap.size W w' := by
  by_cases hb : vG x = 4095
  · have := Ga.swap_any (fitG h) (ok := false) (x := vG x) (.inr ⟨rfl, rfl, hb⟩) W he.ga
    unfold swapW; rw [if_pos hb, decide_eq_false (by simpa using hb)]
    unfold Ga.stepV at this
    rw [← isG h] at this
    exact this
  · have := Ga.swap_any (fitG h) (ok := true) (x := vG x + 1) (.inl ⟨rfl, rfl, hb⟩) W he.ga
    unfold swapW; rw [if_neg hb, decide_eq_true hb]
    rw [← isG h] at this
    exact this
end
end Pg
end Go.Proofs.YtcockldefmmhbaaGreatDoor
/- Layer 21: the contracts of an op's methods: clock, isOver, until, findFlow. (Written by wip/tools/mkPrgC.py.) -/
set_option linter.unusedVariables false
set_option linter.unusedSimpArgs false
set_option maxRecDepth 100000
namespace Go.Proofs.YtcockldefmmhbaaGreatDoor
open Go.ChangeShapes Go.WideShapes Go.ChangeAt Go.RowKit Go.Mtl Go.Lib
namespace Pg
open MemM (Ms lookV loadS swapB swapS holdV lockB lockS unlockS touchS moreS)
open RulM (R)
open AutM (Ke)
open Me (ptr)
open Tb (TAt TM Fw)
section
variable {b : Bs} {W : World} {S : Sh} {r : Rn}
theorem gate_v (a b c : Int) (w : World) : (Instr.field 45 (.agg #[.int .i64 a, .int .i64 b, .int .i64 c]) 0).run Tryz.prog w = .ok (.int .i64 a) w := by kernel_rfl
theorem gate_c (a b c : Int) (w : World) : (Instr.field 45 (.agg #[.int .i64 a, .int .i64 b, .int .i64 c]) 2).run Tryz.prog w = .ok (.int .i64 c) w := by kernel_rfl
theorem flow_s (a b c : Int) (w : World) : (Instr.field 263 (.agg #[.int .i64 a, .int .i64 b, .int .i64 c]) 0).run Tryz.prog w = .ok (.int .i64 a) w := by kernel_rfl
theorem clock_any (H : Y b S r W) (hw : W64 r.wg) (he : Env b.w0) : Calls Tryz.prog 194 #[ptr b.g] W (Yd b (.int .i64 (cG r.wg)) S r) := by
  have HU := Lib.hid (unpackG hw W (H.env he))
  have HY := Lib.hid H
  have x0 := H.cell 35 (.int .u64 r.wg) (fun _ _ => rfl)
  clear H hw he
  go_enter Tryz.func194, Tryz.ntmps194
  go_wp2_with fail
  go_at_call 46
  refine HU.out.mono ?_
  rintro e w' ⟨rfl, hb⟩
  have H2 := Lib.hid (HY.out.next hb)
  clear hb x0 HY
  have g2 := gate_c (vG r.wg) (kG r.wg) (cG r.wg)
  go_wp2_with fail
  go_ret
  exact ⟨rfl, H2.out⟩
theorem isOver_any (H : Y b S r W) (hw : W64 r.wg) (hf : W64 r.wf) (he : Env b.w0) : Calls Tryz.prog 145 #[ptr b.g] W (Yd b (.bool (isOver r)) S r) := by
  have HC : Hid (∀ W, Y b S r W → Calls Tryz.prog 194 #[ptr b.g] W (Yd b (.int .i64 (cG r.wg)) S r)) := fun W h => clock_any h hw he
  have HO : Hid (∀ W, Y b S r W → Calls Tryz.prog 193 #[.int .u64 r.wf, .int .i64 (cG r.wg)] W fun e w' => e = .returned (.bool (isOver r)) ∧ Below W.heap.size W w') := fun W h => overF hf _ W (h.env he)
  have HY := Lib.hid H
  obtain ⟨z, hz⟩ : ∃ z, isOver r = z := ⟨_, rfl⟩
  rw [hz] at HO ⊢
  clear H hw hf he hz
  go_enter Tryz.func145, Tryz.ntmps145
  go_wp2_with fail
  refine wp_region_held_drew (S := fun w' => w'.cell? ⟨b.g, 34, none⟩ = some (.int .u64 r.wf)) (by kernel_rfl) (HY.out.drew.cell 34 (.int .u64 r.wf) (fun _ _ => rfl)) (fun hH => ?_)
  refine wpAnyH_take (i := 0) (oi := ⟨some 3, _, _, _, _, _⟩) (v := ?v1) rfl (by kernel_rfl) (by kernel_rfl) (by kernel_rfl) (fun _ _ _ h => h) (Or.inl ⟨rfl, ?c1⟩) hH ?r1
  case c1 => (intro w' _; go_simp; (try with_reducible rfl))
  try simp only [Act.put, List.setIfInBounds_toArray, List.set_cons_zero, List.set_cons_succ]
  refine wpAnyH_take (i := 1) (oi := ⟨some 4, _, _, _, _, _⟩) (v := ?v2) rfl (by kernel_rfl) (by kernel_rfl) (by kernel_rfl) (fun _ _ _ h => h) (Or.inl ⟨rfl, ?c2⟩) hH ?r2
  case c2 => (intro w' _; go_simp; (try with_reducible rfl))
  try simp only [Act.put, List.setIfInBounds_toArray, List.set_cons_zero, List.set_cons_succ]
  refine wpAnyH_take (i := 2) (oi := ⟨some 5, _, _, _, _, _⟩) (v := ?v3) rfl (by kernel_rfl) (by kernel_rfl) (by kernel_rfl) (fun _ _ _ h => h) (Or.inl ⟨rfl, ?c3⟩) hH ?r3
  case c3 => (intro w' _; go_simp; (try with_reducible rfl))
  try simp only [Act.put, List.setIfInBounds_toArray, List.set_cons_zero, List.set_cons_succ]
  refine wpAnyH_take (i := 3) (oi := ⟨some 6, _, _, _, _, _⟩) (v := ?v4) rfl (by kernel_rfl) (by kernel_rfl) (by kernel_rfl) (fun _ _ _ h => h) (Or.inl ⟨rfl, ?c4⟩) hH ?r4
  case c4 => (intro w' hS; (try dsimp only at hS); go_simp; (try with_reducible rfl))
  try simp only [Act.put, List.setIfInBounds_toArray, List.set_cons_zero, List.set_cons_succ]
  refine wpAnyH_take (i := 4) (oi := ⟨some 7, _, _, _, _, _⟩) (v := ?v5) rfl (by kernel_rfl) (by kernel_rfl) (by kernel_rfl) (fun _ _ _ h => h) (Or.inl ⟨rfl, ?c5⟩) hH ?r5
  case c5 => (intro w' _; go_simp; (try with_reducible rfl))
  try simp only [Act.put, List.setIfInBounds_toArray, List.set_cons_zero, List.set_cons_succ]
  refine wpAnyH_ready (rs := [5]) (by kernel_rfl) (by simp) (AllReadyH.cons rfl (fun K hK => ?_) (AllReadyH.nil))
  go_simp
  go_at_call 194
  refine (HC.out _ HY.out.drew).mono ?_
  rintro e w2 ⟨rfl, hy⟩
  refine hK.out _ _ (hy.cell 34 (.int .u64 r.wf) (fun _ _ => rfl)) (fun hH => ?_)
  clear hK K
  have H2 := Lib.hid hy
  clear hy HY
  try simp only [Act.put, List.setIfInBounds_toArray, List.set_cons_zero, List.set_cons_succ]
  refine wpAnyH_ready (rs := [6]) (by kernel_rfl) (by simp) (AllReadyH.cons rfl (fun K hK => ?_) (AllReadyH.nil))
  go_simp
  go_at_call 193
  refine (HO.out _ H2.out).mono ?_
  rintro e w3 ⟨rfl, hb⟩
  refine hK.out _ _ ((H2.out.next hb).cell 34 (.int .u64 r.wf) (fun _ _ => rfl)) (fun hH => ?_)
  clear hK K
  have H3 := Lib.hid (H2.out.next hb)
  clear hb
  try simp only [Act.put, List.setIfInBounds_toArray, List.set_cons_zero, List.set_cons_succ]
  refine wpAnyH_take (i := 7) (oi := ⟨some 2, _, _, _, _, _⟩) (v := ?v6) rfl (by kernel_rfl) (by kernel_rfl) (by kernel_rfl) (fun _ _ _ h => h) (Or.inl ⟨rfl, ?c6⟩) hH ?r6
  case c6 => (intro w' _; go_simp; (try with_reducible rfl))
  try simp only [Act.put, List.setIfInBounds_toArray, List.set_cons_zero, List.set_cons_succ]
  refine wpAnyH_done (by kernel_rfl) ?_ _
  clear hH
  go_wp2_with fail
  go_ret
  exact ⟨rfl, H3.out⟩
theorem six_of {T : Nat → Int} (h : ∀ i, -9223372036854775808 ≤ T i ∧ T i ≤ 9223372036854775807) : Fs.Six #[.int .i64 (T 0), .int .i64 (T 1), .int .i64 (T 2), .int .i64 (T 3), .int .i64 (T 4), .int .i64 (T 5), .int .i64 (T 6), .int .i64 (T 7), .int .i64 (T 8), .int .i64 (T 9), .int .i64 (T 10), .int .i64 (T 11), .int .i64 (T 12), .int .i64 (T 13), .int .i64 (T 14), .int .i64 (T 15)] T :=
  ⟨rfl, fun i hi => by
    rcases (by omega : i = 0 ∨ i = 1 ∨ i = 2 ∨ i = 3 ∨ i = 4 ∨ i = 5 ∨ i = 6 ∨ i = 7 ∨ i = 8 ∨ i = 9 ∨ i = 10 ∨ i = 11 ∨ i = 12 ∨ i = 13 ∨ i = 14 ∨ i = 15) with rfl | rfl | rfl | rfl | rfl | rfl | rfl | rfl | rfl | rfl | rfl | rfl | rfl | rfl | rfl | rfl <;> rfl, fun i _ => h i⟩
set_option maxHeartbeats 2000000 in
theorem until_any (H : Y b S r W) (hw : W64 r.wg) (he : Env b.w0) (hT : ∀ i, -9223372036854775808 ≤ b.C.T i ∧ b.C.T i ≤ 9223372036854775807) : Calls Tryz.prog 200 #[ptr b.g] W (Yd b (.int .i64 (untilN b.C r)) S r) := by
  have HC : Hid (∀ W, Y b S r W → Calls Tryz.prog 194 #[ptr b.g] W (Yd b (.int .i64 (cG r.wg)) S r)) := fun W h => clock_any h hw he
  have HO := Lib.hid (fun W => Fs.until_any _ _ (six_of hT) r.tn (cG r.wg) W)
  have HY := Lib.hid H
  obtain ⟨z, hz⟩ : ∃ z, untilN b.C r = z := ⟨_, rfl⟩
  rw [show Fs.untN b.C.T r.tn (cG r.wg) = z from hz] at HO
  rw [hz]
  clear H hw he hz hT
  go_enter Tryz.func200, Tryz.ntmps200
  go_wp2_with fail
  refine wp_region_held_drew (S := fun w' => w'.cell? ⟨b.g, 0, none⟩ = some (ptr b.B) ∧ w'.cell? ⟨b.g, 32, none⟩ = some (.int .i64 r.tn) ∧ w'.cell? ⟨b.B, 2, none⟩ = some (.int .i64 (b.C.T 0)) ∧ w'.cell? ⟨b.B, 3, none⟩ = some (.int .i64 (b.C.T 1)) ∧ w'.cell? ⟨b.B, 4, none⟩ = some (.int .i64 (b.C.T 2)) ∧ w'.cell? ⟨b.B, 5, none⟩ = some (.int .i64 (b.C.T 3)) ∧ w'.cell? ⟨b.B, 6, none⟩ = some (.int .i64 (b.C.T 4)) ∧ w'.cell? ⟨b.B, 7, none⟩ = some (.int .i64 (b.C.T 5)) ∧ w'.cell? ⟨b.B, 8, none⟩ = some (.int .i64 (b.C.T 6)) ∧ w'.cell? ⟨b.B, 9, none⟩ = some (.int .i64 (b.C.T 7)) ∧ w'.cell? ⟨b.B, 10, none⟩ = some (.int .i64 (b.C.T 8)) ∧ w'.cell? ⟨b.B, 11, none⟩ = some (.int .i64 (b.C.T 9)) ∧ w'.cell? ⟨b.B, 12, none⟩ = some (.int .i64 (b.C.T 10)) ∧ w'.cell? ⟨b.B, 13, none⟩ = some (.int .i64 (b.C.T 11)) ∧ w'.cell? ⟨b.B, 14, none⟩ = some (.int .i64 (b.C.T 12)) ∧ w'.cell? ⟨b.B, 15, none⟩ = some (.int .i64 (b.C.T 13)) ∧ w'.cell? ⟨b.B, 16, none⟩ = some (.int .i64 (b.C.T 14)) ∧ w'.cell? ⟨b.B, 17, none⟩ = some (.int .i64 (b.C.T 15))) (by kernel_rfl) (⟨HY.out.drew.cell 0 (ptr b.B) (fun _ _ => rfl), HY.out.drew.cell 32 (.int .i64 r.tn) (fun _ _ => rfl), HY.out.drew.shared 2 (.int .i64 (b.C.T 0)) (fun _ => rfl), HY.out.drew.shared 3 (.int .i64 (b.C.T 1)) (fun _ => rfl), HY.out.drew.shared 4 (.int .i64 (b.C.T 2)) (fun _ => rfl), HY.out.drew.shared 5 (.int .i64 (b.C.T 3)) (fun _ => rfl), HY.out.drew.shared 6 (.int .i64 (b.C.T 4)) (fun _ => rfl), HY.out.drew.shared 7 (.int .i64 (b.C.T 5)) (fun _ => rfl), HY.out.drew.shared 8 (.int .i64 (b.C.T 6)) (fun _ => rfl), HY.out.drew.shared 9 (.int .i64 (b.C.T 7)) (fun _ => rfl), HY.out.drew.shared 10 (.int .i64 (b.C.T 8)) (fun _ => rfl), HY.out.drew.shared 11 (.int .i64 (b.C.T 9)) (fun _ => rfl), HY.out.drew.shared 12 (.int .i64 (b.C.T 10)) (fun _ => rfl), HY.out.drew.shared 13 (.int .i64 (b.C.T 11)) (fun _ => rfl), HY.out.drew.shared 14 (.int .i64 (b.C.T 12)) (fun _ => rfl), HY.out.drew.shared 15 (.int .i64 (b.C.T 13)) (fun _ => rfl), HY.out.drew.shared 16 (.int .i64 (b.C.T 14)) (fun _ => rfl), HY.out.drew.shared 17 (.int .i64 (b.C.T 15)) (fun _ => rfl)⟩) (fun hH => ?_)
  refine wpAnyH_take (i := 0) (oi := ⟨some 3, _, _, _, _, _⟩) (v := ?v1) rfl (by kernel_rfl) (by kernel_rfl) (by kernel_rfl) (fun _ _ _ h => h) (Or.inl ⟨rfl, ?c1⟩) hH ?r1
  case c1 => (intro w' _; go_simp; (try with_reducible rfl))
  try simp only [Act.put, List.setIfInBounds_toArray, List.set_cons_zero, List.set_cons_succ]
  refine wpAnyH_take (i := 1) (oi := ⟨some 4, _, _, _, _, _⟩) (v := ?v2) rfl (by kernel_rfl) (by kernel_rfl) (by kernel_rfl) (fun _ _ _ h => h) (Or.inl ⟨rfl, ?c2⟩) hH ?r2
  case c2 => (intro w' _; go_simp; (try with_reducible rfl))
  try simp only [Act.put, List.setIfInBounds_toArray, List.set_cons_zero, List.set_cons_succ]
  refine wpAnyH_take (i := 2) (oi := ⟨some 5, _, _, _, _, _⟩) (v := ?v3) rfl (by kernel_rfl) (by kernel_rfl) (by kernel_rfl) (fun _ _ _ h => h) (Or.inl ⟨rfl, ?c3⟩) hH ?r3
  case c3 => (intro w' _; go_simp; (try with_reducible rfl))
  try simp only [Act.put, List.setIfInBounds_toArray, List.set_cons_zero, List.set_cons_succ]
  refine wpAnyH_take (i := 3) (oi := ⟨some 6, _, _, _, _, _⟩) (v := ?v4) rfl (by kernel_rfl) (by kernel_rfl) (by kernel_rfl) (fun _ _ _ h => h) (Or.inl ⟨rfl, ?c4⟩) hH ?r4
  case c4 => (intro w' hS; (try dsimp only at hS); go_simp; (try with_reducible rfl))
  try simp only [Act.put, List.setIfInBounds_toArray, List.set_cons_zero, List.set_cons_succ]
  refine wpAnyH_take (i := 4) (oi := ⟨some 7, _, _, _, _, _⟩) (v := ?v5) rfl (by kernel_rfl) (by kernel_rfl) (by kernel_rfl) (fun _ _ _ h => h) (Or.inl ⟨rfl, ?c5⟩) hH ?r5
  case c5 => (intro w' _; go_simp; (try with_reducible rfl))
  try simp only [Act.put, List.setIfInBounds_toArray, List.set_cons_zero, List.set_cons_succ]
  refine wpAnyH_take (i := 5) (oi := ⟨some 8, _, _, _, _, _⟩) (v := ?v6) rfl (by kernel_rfl) (by kernel_rfl) (by kernel_rfl) (fun _ _ _ h => h) (Or.inl ⟨rfl, ?c6⟩) hH ?r6
  case c6 => (intro w' _; go_simp; (try with_reducible rfl))
  try simp only [Act.put, List.setIfInBounds_toArray, List.set_cons_zero, List.set_cons_succ]
  refine wpAnyH_take (i := 6) (oi := ⟨some 9, _, _, _, _, _⟩) (v := ?v7) rfl (by kernel_rfl) (by kernel_rfl) (by kernel_rfl) (fun _ _ _ h => h) (Or.inl ⟨rfl, ?c7⟩) hH ?r7
  case c7 => (intro w' _; go_simp; (try with_reducible rfl))
  try simp only [Act.put, List.setIfInBounds_toArray, List.set_cons_zero, List.set_cons_succ]
  refine wpAnyH_take (i := 7) (oi := ⟨some 10, _, _, _, _, _⟩) (v := ?v8) rfl (by kernel_rfl) (by kernel_rfl) (by kernel_rfl) (fun _ _ _ h => h) (Or.inl ⟨rfl, ?c8⟩) hH ?r8
  case c8 => (intro w' hS; (try dsimp only at hS); go_simp; (try with_reducible rfl))
  try simp only [Act.put, List.setIfInBounds_toArray, List.set_cons_zero, List.set_cons_succ]
  refine wpAnyH_take (i := 8) (oi := ⟨some 11, _, _, _, _, _⟩) (v := ?v9) rfl (by kernel_rfl) (by kernel_rfl) (by kernel_rfl) (fun _ _ _ h => h) (Or.inl ⟨rfl, ?c9⟩) hH ?r9
  case c9 => (intro w' _; go_simp; (try with_reducible rfl))
  try simp only [Act.put, List.setIfInBounds_toArray, List.set_cons_zero, List.set_cons_succ]
  refine wpAnyH_take (i := 9) (oi := ⟨some 12, _, _, _, _, _⟩) (v := ?v10) rfl (by kernel_rfl) (by kernel_rfl) (by kernel_rfl) (fun _ _ _ h => h) (Or.inl ⟨rfl, ?c10⟩) hH ?r10
  case c10 => (intro w' _; go_simp; (try with_reducible rfl))
  try simp only [Act.put, List.setIfInBounds_toArray, List.set_cons_zero, List.set_cons_succ]
  refine wpAnyH_take (i := 10) (oi := ⟨some 13, _, _, _, _, _⟩) (v := ?v11) rfl (by kernel_rfl) (by kernel_rfl) (by kernel_rfl) (fun _ _ _ h => h) (Or.inl ⟨rfl, ?c11⟩) hH ?r11
  case c11 => (intro w' _; go_simp; (try with_reducible rfl))
  try simp only [Act.put, List.setIfInBounds_toArray, List.set_cons_zero, List.set_cons_succ]
  refine wpAnyH_take (i := 11) (oi := ⟨some 14, _, _, _, _, _⟩) (v := ?v12) rfl (by kernel_rfl) (by kernel_rfl) (by kernel_rfl) (fun _ _ _ h => h) (Or.inl ⟨rfl, ?c12⟩) hH ?r12
  case c12 => (intro w' hS; (try dsimp only at hS); go_simp; (try with_reducible rfl))
  try simp only [Act.put, List.setIfInBounds_toArray, List.set_cons_zero, List.set_cons_succ]
  refine wpAnyH_take (i := 12) (oi := ⟨some 15, _, _, _, _, _⟩) (v := ?v13) rfl (by kernel_rfl) (by kernel_rfl) (by kernel_rfl) (fun _ _ _ h => h) (Or.inl ⟨rfl, ?c13⟩) hH ?r13
  case c13 => (intro w' _; go_simp; (try with_reducible rfl))
  try simp only [Act.put, List.setIfInBounds_toArray, List.set_cons_zero, List.set_cons_succ]
  refine wpAnyH_ready (rs := [13]) (by kernel_rfl) (by simp) (AllReadyH.cons rfl (fun K hK => ?_) (AllReadyH.nil))
  go_simp
  go_at_call 194
  refine (HC.out _ HY.out.drew).mono ?_
  rintro e w2 ⟨rfl, hy⟩
  refine hK.out _ _ (⟨hy.cell 0 (ptr b.B) (fun _ _ => rfl), hy.cell 32 (.int .i64 r.tn) (fun _ _ => rfl), hy.shared 2 (.int .i64 (b.C.T 0)) (fun _ => rfl), hy.shared 3 (.int .i64 (b.C.T 1)) (fun _ => rfl), hy.shared 4 (.int .i64 (b.C.T 2)) (fun _ => rfl), hy.shared 5 (.int .i64 (b.C.T 3)) (fun _ => rfl), hy.shared 6 (.int .i64 (b.C.T 4)) (fun _ => rfl), hy.shared 7 (.int .i64 (b.C.T 5)) (fun _ => rfl), hy.shared 8 (.int .i64 (b.C.T 6)) (fun _ => rfl), hy.shared 9 (.int .i64 (b.C.T 7)) (fun _ => rfl), hy.shared 10 (.int .i64 (b.C.T 8)) (fun _ => rfl), hy.shared 11 (.int .i64 (b.C.T 9)) (fun _ => rfl), hy.shared 12 (.int .i64 (b.C.T 10)) (fun _ => rfl), hy.shared 13 (.int .i64 (b.C.T 11)) (fun _ => rfl), hy.shared 14 (.int .i64 (b.C.T 12)) (fun _ => rfl), hy.shared 15 (.int .i64 (b.C.T 13)) (fun _ => rfl), hy.shared 16 (.int .i64 (b.C.T 14)) (fun _ => rfl), hy.shared 17 (.int .i64 (b.C.T 15)) (fun _ => rfl)⟩) (fun hH => ?_)
  clear hK K
  have H2 := Lib.hid hy
  clear hy HY
  try simp only [Act.put, List.setIfInBounds_toArray, List.set_cons_zero, List.set_cons_succ]
  refine wpAnyH_ready (rs := [14]) (by kernel_rfl) (by simp) (AllReadyH.cons rfl (fun K hK => ?_) (AllReadyH.nil))
  go_simp
  go_at_call 254
  refine (HO.out _).mono ?_
  rintro e w3 ⟨rfl, hb⟩
  refine hK.out _ _ (⟨(H2.out.next hb).cell 0 (ptr b.B) (fun _ _ => rfl), (H2.out.next hb).cell 32 (.int .i64 r.tn) (fun _ _ => rfl), (H2.out.next hb).shared 2 (.int .i64 (b.C.T 0)) (fun _ => rfl), (H2.out.next hb).shared 3 (.int .i64 (b.C.T 1)) (fun _ => rfl), (H2.out.next hb).shared 4 (.int .i64 (b.C.T 2)) (fun _ => rfl), (H2.out.next hb).shared 5 (.int .i64 (b.C.T 3)) (fun _ => rfl), (H2.out.next hb).shared 6 (.int .i64 (b.C.T 4)) (fun _ => rfl), (H2.out.next hb).shared 7 (.int .i64 (b.C.T 5)) (fun _ => rfl), (H2.out.next hb).shared 8 (.int .i64 (b.C.T 6)) (fun _ => rfl), (H2.out.next hb).shared 9 (.int .i64 (b.C.T 7)) (fun _ => rfl), (H2.out.next hb).shared 10 (.int .i64 (b.C.T 8)) (fun _ => rfl), (H2.out.next hb).shared 11 (.int .i64 (b.C.T 9)) (fun _ => rfl), (H2.out.next hb).shared 12 (.int .i64 (b.C.T 10)) (fun _ => rfl), (H2.out.next hb).shared 13 (.int .i64 (b.C.T 11)) (fun _ => rfl), (H2.out.next hb).shared 14 (.int .i64 (b.C.T 12)) (fun _ => rfl), (H2.out.next hb).shared 15 (.int .i64 (b.C.T 13)) (fun _ => rfl), (H2.out.next hb).shared 16 (.int .i64 (b.C.T 14)) (fun _ => rfl), (H2.out.next hb).shared 17 (.int .i64 (b.C.T 15)) (fun _ => rfl)⟩) (fun hH => ?_)
  clear hK K
  have H3 := Lib.hid (H2.out.next hb)
  clear hb
  try simp only [Act.put, List.setIfInBounds_toArray, List.set_cons_zero, List.set_cons_succ]
  refine wpAnyH_take (i := 15) (oi := ⟨some 2, _, _, _, _, _⟩) (v := ?v14) rfl (by kernel_rfl) (by kernel_rfl) (by kernel_rfl) (fun _ _ _ h => h) (Or.inl ⟨rfl, ?c14⟩) hH ?r14
  case c14 => (intro w' _; go_simp; (try with_reducible rfl))
  try simp only [Act.put, List.setIfInBounds_toArray, List.set_cons_zero, List.set_cons_succ]
  refine wpAnyH_done (by kernel_rfl) ?_ _
  clear hH
  go_wp2_with fail
  go_ret
  exact ⟨rfl, H3.out⟩
theorem find_y (H : Y b S r W) (hr : Rm 0 S) (hk : r.k.Ok) : Calls Tryz.prog 150 #[ptr b.tb, .int .i64 r.t, .agg #[.int .u32 (r.k.a : Int), .int .u32 (r.k.b : Int), .int .u16 (r.k.p : Int), .int .u16 (r.k.q : Int), .int .u8 (r.k.r : Int)]] W fun e w' =>
    (∃ ve, e = .returned (.tuple #[.int .i64 (fndR b.C S r).x, .bool (fndR b.C S r).tu, .bool (fndO b.C S r).isSome, .int .i64 ve])) ∧ Y b (toS b.C S r 5) r w' := by
  cases hh : hasB b.C S r with
  | false =>
    have e1 : toS b.C S r 5 = S := by unfold toS; rw [hh]; rfl
    have e2 : fndO b.C S r = none := by unfold fndO; rw [hh]; rfl
    have e3 : fndR b.C S r = { r with x := 0, tu := false } := by unfold fndR; rw [e2]
    rw [e1, e2, e3]
    refine (H.table (fs' := S.fs) (fun w Om Ot h => Tb.find_no h r.t r.k hk _ rfl hh)).mono ?_
    rintro e w' ⟨rfl, h⟩
    exact ⟨⟨_, rfl⟩, h⟩
  | true =>
    have e1 : toS b.C S r 5 = { S with ms := touchS S.ms r.t 5 ((Tb.sOf b.C.n r.k : Nat) : Int) } := by unfold toS; rw [hh]; rfl
    cases hf : TabM.find r.k S.fs with
    | none =>
      have e2 : fndO b.C S r = none := by unfold fndO; rw [hh, if_pos rfl, hf]
      have e3 : fndR b.C S r = { r with x := 0, tu := false } := by unfold fndR; rw [e2]
      rw [e1, e2, e3]
      refine (H.table (fs' := S.fs) (fun w Om Ot h => Tb.find_yes h hr.l r.t r.k hk 0 false false _ rfl hh (.inr ⟨hf, rfl, rfl, rfl⟩))).mono ?_
      rintro e w' ⟨rfl, h⟩
      exact ⟨⟨_, rfl⟩, h⟩
    | some f =>
      have e2 : fndO b.C S r = some f := by unfold fndO; rw [hh, if_pos rfl, hf]
      have e3 : fndR b.C S r = { r with x := f.x, tu := f.dn } := by unfold fndR; rw [e2]
      rw [e1, e2, e3]
      refine (H.table (fs' := S.fs) (fun w Om Ot h => Tb.find_yes h hr.l r.t r.k hk f.x f.dn true _ rfl hh (.inl ⟨f, hf, rfl, rfl, rfl⟩))).mono ?_
      rintro e w' ⟨rfl, h⟩
      exact ⟨⟨_, rfl⟩, h⟩
theorem fndR_is (C : Cf) (S : Sh) (r : Rn) : fndR C S r = { r with x := (fndR C S r).x, tu := (fndR C S r).tu } := by unfold fndR; cases fndO C S r <;> rfl
set_option maxHeartbeats 2000000 in
theorem findFlow_any (H : Y b S r W) (hr : Rm 0 S) (hk : r.k.Ok) : Calls Tryz.prog 107 #[ptr b.g] W (Yd b (.bool (fndO b.C S r).isSome) (toS b.C S r 5) (fndR b.C S r)) := by
  have HF := Lib.hid (find_y H.drew hr hk)
  have HY := Lib.hid H
  have e3 := fndR_is b.C S r
  obtain ⟨x, hx⟩ : ∃ x, (fndR b.C S r).x = x := ⟨_, rfl⟩
  obtain ⟨d, hd⟩ : ∃ x, (fndR b.C S r).tu = x := ⟨_, rfl⟩
  obtain ⟨z, hz⟩ : ∃ x, (fndO b.C S r).isSome = x := ⟨_, rfl⟩
  rw [hx, hd] at e3
  rw [hx, hd, hz] at HF
  rw [e3, hz]
  clear H hr hk hx hd hz e3
  go_enter Tryz.func107, Tryz.ntmps107
  go_wp2_with fail
  refine wp_region_held_drew (S := fun w' => w'.cell? ⟨b.g, 0, none⟩ = some (ptr b.B) ∧ w'.cell? ⟨b.B, 19, none⟩ = some (ptr b.tb) ∧ w'.cell? ⟨b.g, 1, none⟩ = some (.int .i64 r.t) ∧ w'.cell? ⟨b.g, 25, none⟩ = some (.int .u32 (r.k.a : Int)) ∧ w'.cell? ⟨b.g, 26, none⟩ = some (.int .u32 (r.k.b : Int)) ∧ w'.cell? ⟨b.g, 27, none⟩ = some (.int .u16 (r.k.p : Int)) ∧ w'.cell? ⟨b.g, 28, none⟩ = some (.int .u16 (r.k.q : Int)) ∧ w'.cell? ⟨b.g, 29, none⟩ = some (.int .u8 (r.k.r : Int))) (by kernel_rfl) (⟨HY.out.drew.cell 0 (ptr b.B) (fun _ _ => rfl), HY.out.drew.shared 19 (ptr b.tb) (fun _ => rfl), HY.out.drew.cell 1 (.int .i64 r.t) (fun _ _ => rfl), HY.out.drew.cell 25 (.int .u32 (r.k.a : Int)) (fun _ _ => rfl), HY.out.drew.cell 26 (.int .u32 (r.k.b : Int)) (fun _ _ => rfl), HY.out.drew.cell 27 (.int .u16 (r.k.p : Int)) (fun _ _ => rfl), HY.out.drew.cell 28 (.int .u16 (r.k.q : Int)) (fun _ _ => rfl), HY.out.drew.cell 29 (.int .u8 (r.k.r : Int)) (fun _ _ => rfl)⟩) (fun hH => ?_)
  refine wpAnyH_take (i := 0) (oi := ⟨some 8, _, _, _, _, _⟩) (v := ?v1) rfl (by kernel_rfl) (by kernel_rfl) (by kernel_rfl) (fun _ _ _ h => h) (Or.inl ⟨rfl, ?c1⟩) hH ?r1
  case c1 => (intro w' _; go_simp; (try with_reducible rfl))
  try simp only [Act.put, List.setIfInBounds_toArray, List.set_cons_zero, List.set_cons_succ]
  refine wpAnyH_take (i := 1) (oi := ⟨some 9, _, _, _, _, _⟩) (v := ?v2) rfl (by kernel_rfl) (by kernel_rfl) (by kernel_rfl) (fun _ _ _ h => h) (Or.inl ⟨rfl, ?c2⟩) hH ?r2
  case c2 => (intro w' _; go_simp; (try with_reducible rfl))
  try simp only [Act.put, List.setIfInBounds_toArray, List.set_cons_zero, List.set_cons_succ]
  refine wpAnyH_take (i := 2) (oi := ⟨some 10, _, _, _, _, _⟩) (v := ?v3) rfl (by kernel_rfl) (by kernel_rfl) (by kernel_rfl) (fun _ _ _ h => h) (Or.inl ⟨rfl, ?c3⟩) hH ?r3
  case c3 => (intro w' _; go_simp; (try with_reducible rfl))
  try simp only [Act.put, List.setIfInBounds_toArray, List.set_cons_zero, List.set_cons_succ]
  refine wpAnyH_take (i := 3) (oi := ⟨some 11, _, _, _, _, _⟩) (v := ?v4) rfl (by kernel_rfl) (by kernel_rfl) (by kernel_rfl) (fun _ _ _ h => h) (Or.inl ⟨rfl, ?c4⟩) hH ?r4
  case c4 => (intro w' hS; (try dsimp only at hS); go_simp; (try with_reducible rfl))
  try simp only [Act.put, List.setIfInBounds_toArray, List.set_cons_zero, List.set_cons_succ]
  refine wpAnyH_take (i := 4) (oi := ⟨some 12, _, _, _, _, _⟩) (v := ?v5) rfl (by kernel_rfl) (by kernel_rfl) (by kernel_rfl) (fun _ _ _ h => h) (Or.inl ⟨rfl, ?c5⟩) hH ?r5
  case c5 => (intro w' _; go_simp; (try with_reducible rfl))
  try simp only [Act.put, List.setIfInBounds_toArray, List.set_cons_zero, List.set_cons_succ]
  refine wpAnyH_take (i := 5) (oi := ⟨some 13, _, _, _, _, _⟩) (v := ?v6) rfl (by kernel_rfl) (by kernel_rfl) (by kernel_rfl) (fun _ _ _ h => h) (Or.inl ⟨rfl, ?c6⟩) hH ?r6
  case c6 => (intro w' _; go_simp; (try with_reducible rfl))
  try simp only [Act.put, List.setIfInBounds_toArray, List.set_cons_zero, List.set_cons_succ]
  refine wpAnyH_take (i := 6) (oi := ⟨some 14, _, _, _, _, _⟩) (v := ?v7) rfl (by kernel_rfl) (by kernel_rfl) (by kernel_rfl) (fun _ _ _ h => h) (Or.inl ⟨rfl, ?c7⟩) hH ?r7
  case c7 => (intro w' hS; (try dsimp only at hS); go_simp; (try with_reducible rfl))
  try simp only [Act.put, List.setIfInBounds_toArray, List.set_cons_zero, List.set_cons_succ]
  refine wpAnyH_take (i := 7) (oi := ⟨some 15, _, _, _, _, _⟩) (v := ?v8) rfl (by kernel_rfl) (by kernel_rfl) (by kernel_rfl) (fun _ _ _ h => h) (Or.inl ⟨rfl, ?c8⟩) hH ?r8
  case c8 => (intro w' _; go_simp; (try with_reducible rfl))
  try simp only [Act.put, List.setIfInBounds_toArray, List.set_cons_zero, List.set_cons_succ]
  refine wpAnyH_take (i := 8) (oi := ⟨some 16, _, _, _, _, _⟩) (v := ?v9) rfl (by kernel_rfl) (by kernel_rfl) (by kernel_rfl) (fun _ _ _ h => h) (Or.inl ⟨rfl, ?c9⟩) hH ?r9
  case c9 => (intro w' _; go_simp; (try with_reducible rfl))
  try simp only [Act.put, List.setIfInBounds_toArray, List.set_cons_zero, List.set_cons_succ]
  refine wpAnyH_take (i := 9) (oi := ⟨some 17, _, _, _, _, _⟩) (v := ?v10) rfl (by kernel_rfl) (by kernel_rfl) (by kernel_rfl) (fun _ _ _ h => h) (Or.inl ⟨rfl, ?c10⟩) hH ?r10
  case c10 => (intro w' _; go_simp; (try with_reducible rfl))
  try simp only [Act.put, List.setIfInBounds_toArray, List.set_cons_zero, List.set_cons_succ]
  refine wpAnyH_take (i := 10) (oi := ⟨some 18, _, _, _, _, _⟩) (v := ?v11) rfl (by kernel_rfl) (by kernel_rfl) (by kernel_rfl) (fun _ _ _ h => h) (Or.inl ⟨rfl, ?c11⟩) hH ?r11
  case c11 => (intro w' hS; (try dsimp only at hS); go_simp; (try with_reducible rfl))
  try simp only [Act.put, List.setIfInBounds_toArray, List.set_cons_zero, List.set_cons_succ]
  refine wpAnyH_take (i := 11) (oi := ⟨some 19, _, _, _, _, _⟩) (v := ?v12) rfl (by kernel_rfl) (by kernel_rfl) (by kernel_rfl) (fun _ _ _ h => h) (Or.inl ⟨rfl, ?c12⟩) hH ?r12
  case c12 => (intro w' _; go_simp; (try with_reducible rfl))
  try simp only [Act.put, List.setIfInBounds_toArray, List.set_cons_zero, List.set_cons_succ]
  refine wpAnyH_take (i := 12) (oi := ⟨some 20, _, _, _, _, _⟩) (v := ?v13) rfl (by kernel_rfl) (by kernel_rfl) (by kernel_rfl) (fun _ _ _ h => h) (Or.inl ⟨rfl, ?c13⟩) hH ?r13
  case c13 => (intro w' _; go_simp; (try with_reducible rfl))
  try simp only [Act.put, List.setIfInBounds_toArray, List.set_cons_zero, List.set_cons_succ]
  refine wpAnyH_take (i := 13) (oi := ⟨some 21, _, _, _, _, _⟩) (v := ?v14) rfl (by kernel_rfl) (by kernel_rfl) (by kernel_rfl) (fun _ _ _ h => h) (Or.inl ⟨rfl, ?c14⟩) hH ?r14
  case c14 => (intro w' _; go_simp; (try with_reducible rfl))
  try simp only [Act.put, List.setIfInBounds_toArray, List.set_cons_zero, List.set_cons_succ]
  refine wpAnyH_take (i := 14) (oi := ⟨some 22, _, _, _, _, _⟩) (v := ?v15) rfl (by kernel_rfl) (by kernel_rfl) (by kernel_rfl) (fun _ _ _ h => h) (Or.inl ⟨rfl, ?c15⟩) hH ?r15
  case c15 => (intro w' hS; (try dsimp only at hS); go_simp; (try with_reducible rfl))
  try simp only [Act.put, List.setIfInBounds_toArray, List.set_cons_zero, List.set_cons_succ]
  refine wpAnyH_ready (rs := [15]) (by kernel_rfl) (by simp) (AllReadyH.cons rfl (fun K hK => ?_) (AllReadyH.nil))
  go_simp
  go_at_call 150
  refine HF.out.mono ?_
  rintro e w2 ⟨⟨ve, rfl⟩, hy⟩
  refine hK.out _ _ (⟨hy.cell 0 (ptr b.B) (fun _ _ => rfl), hy.shared 19 (ptr b.tb) (fun _ => rfl), hy.cell 1 (.int .i64 r.t) (fun _ _ => rfl), hy.cell 25 (.int .u32 (r.k.a : Int)) (fun _ _ => rfl), hy.cell 26 (.int .u32 (r.k.b : Int)) (fun _ _ => rfl), hy.cell 27 (.int .u16 (r.k.p : Int)) (fun _ _ => rfl), hy.cell 28 (.int .u16 (r.k.q : Int)) (fun _ _ => rfl), hy.cell 29 (.int .u8 (r.k.r : Int)) (fun _ _ => rfl)⟩) (fun hH => ?_)
  clear hK K
  have H2 := Lib.hid hy
  clear hy HY HF
  try simp only [Act.put, List.setIfInBounds_toArray, List.set_cons_zero, List.set_cons_succ]
  refine wpAnyH_take (i := 16) (oi := ⟨some 7, _, _, _, _, _⟩) (v := ?v16) rfl (by kernel_rfl) (by kernel_rfl) (by kernel_rfl) (fun _ _ _ h => h) (Or.inl ⟨rfl, ?c16⟩) hH ?r16
  case c16 => (intro w' _; go_simp; (try with_reducible rfl))
  try simp only [Act.put, List.setIfInBounds_toArray, List.set_cons_zero, List.set_cons_succ]
  refine wpAnyH_take (i := 17) (oi := ⟨some 24, _, _, _, _, _⟩) (v := ?v17) rfl (by kernel_rfl) (by kernel_rfl) (by kernel_rfl) (fun _ _ _ h => h) (Or.inl ⟨rfl, ?c17⟩) hH ?r17
  case c17 => (intro w' _; go_simp; (try with_reducible rfl))
  try simp only [Act.put, List.setIfInBounds_toArray, List.set_cons_zero, List.set_cons_succ]
  refine wpAnyH_take (i := 18) (oi := ⟨some 25, _, _, _, _, _⟩) (v := ?v18) rfl (by kernel_rfl) (by kernel_rfl) (by kernel_rfl) (fun _ _ _ h => h) (Or.inl ⟨rfl, ?c18⟩) hH ?r18
  case c18 => (intro w' _; go_simp; (try with_reducible rfl))
  try simp only [Act.put, List.setIfInBounds_toArray, List.set_cons_zero, List.set_cons_succ]
  refine wpAnyH_take (i := 19) (oi := ⟨some 26, _, _, _, _, _⟩) (v := ?v19) rfl (by kernel_rfl) (by kernel_rfl) (by kernel_rfl) (fun _ _ _ h => h) (Or.inl ⟨rfl, ?c19⟩) hH ?r19
  case c19 => (intro w' _; go_simp; (try with_reducible rfl))
  try simp only [Act.put, List.setIfInBounds_toArray, List.set_cons_zero, List.set_cons_succ]
  refine wpAnyH_take (i := 20) (oi := ⟨some 27, _, _, _, _, _⟩) (v := ?v20) rfl (by kernel_rfl) (by kernel_rfl) (by kernel_rfl) (fun _ _ _ h => h) (Or.inl ⟨rfl, ?c20⟩) hH ?r20
  case c20 => (intro w' _; go_simp; (try with_reducible rfl))
  try simp only [Act.put, List.setIfInBounds_toArray, List.set_cons_zero, List.set_cons_succ]
  refine wpAnyH_take (i := 21) (oi := ⟨some 3, _, _, _, _, _⟩) (v := ?v21) rfl (by kernel_rfl) (by kernel_rfl) (by kernel_rfl) (fun _ _ _ h => h) (Or.inl ⟨rfl, ?c21⟩) hH ?r21
  case c21 => (intro w' _; go_simp; (try with_reducible rfl))
  try simp only [Act.put, List.setIfInBounds_toArray, List.set_cons_zero, List.set_cons_succ]
  refine wpAnyH_take (i := 22) (oi := ⟨some 4, _, _, _, _, _⟩) (v := ?v22) rfl (by kernel_rfl) (by kernel_rfl) (by kernel_rfl) (fun _ _ _ h => h) (Or.inl ⟨rfl, ?c22⟩) hH ?r22
  case c22 => (intro w' _; go_simp; (try with_reducible rfl))
  try simp only [Act.put, List.setIfInBounds_toArray, List.set_cons_zero, List.set_cons_succ]
  refine wpAnyH_take (i := 23) (oi := ⟨some 5, _, _, _, _, _⟩) (v := ?v23) rfl (by kernel_rfl) (by kernel_rfl) (by kernel_rfl) (fun _ _ _ h => h) (Or.inl ⟨rfl, ?c23⟩) hH ?r23
  case c23 => (intro w' _; go_simp; (try with_reducible rfl))
  try simp only [Act.put, List.setIfInBounds_toArray, List.set_cons_zero, List.set_cons_succ]
  refine wpAnyH_take (i := 24) (oi := ⟨some 6, _, _, _, _, _⟩) (v := ?v24) rfl (by kernel_rfl) (by kernel_rfl) (by kernel_rfl) (fun _ _ _ h => h) (Or.inl ⟨rfl, ?c24⟩) hH ?r24
  case c24 => (intro w' _; go_simp; (try with_reducible rfl))
  try simp only [Act.put, List.setIfInBounds_toArray, List.set_cons_zero, List.set_cons_succ]
  refine wpAnyH_done (by kernel_rfl) ?_ _
  clear hH
  have H3 := Lib.hid (H2.out.set (r' := { r with x := x }) 30 (.int .i64 x) (fun _ _ => rfl) rfl rfl)
  have H4 := Lib.hid (H3.out.set (r' := { r with x := x, tu := d }) 31 (.bool d) (fun _ _ => rfl) rfl rfl)
  have f0 := H2.out.frozen 30
  have f1 := H2.out.frozen 31
  have c0 := H2.out.cell 30 (.int .i64 r.x) (fun _ _ => rfl)
  have c1 := H2.out.cell 31 (.bool r.tu) (fun _ _ => rfl)
  clear H3 H2
  go_wp2_with fail
  go_ret
  exact ⟨rfl, H4.out⟩
end
end Pg
end Go.Proofs.YtcockldefmmhbaaGreatDoor
/- Layer 21: own, record, setMark, fillMark, end. (Written by wip/tools/mkPrgE.py.) -/
set_option linter.unusedVariables false
set_option linter.unusedSimpArgs false
set_option maxRecDepth 100000
namespace Go.Proofs.YtcockldefmmhbaaGreatDoor
open Go.ChangeShapes Go.WideShapes Go.ChangeAt Go.RowKit Go.Mtl Go.Lib
namespace Pg
open MemM (Ms lookV loadS swapB swapS holdV lockB lockS unlockS touchS moreS)
open RulM (R)
open AutM (Ke)
open Me (ptr)
open Tb (TAt TM Fw)
abbrev ptx (kd t o a c p q u v n : Int) : Array Value := #[.int .i64 kd, .int .i64 t, .int .i64 o, .int .u32 a, .int .u32 c, .int .u16 p, .int .u16 q, .int .u8 u, .int .i64 v, .int .i64 n]
abbrev storePt (w : World) (g : Nat) (kd t o a c p q u v n : Int) : World := ((((((((((w.setCell ⟨g, 0, none⟩ (.int .i64 kd)).setCell ⟨g, 1, none⟩ (.int .i64 t)).setCell ⟨g, 2, none⟩ (.int .i64 o)).setCell ⟨g, 3, none⟩ (.int .u32 a)).setCell ⟨g, 4, none⟩ (.int .u32 c)).setCell ⟨g, 5, none⟩ (.int .u16 p)).setCell ⟨g, 6, none⟩ (.int .u16 q)).setCell ⟨g, 7, none⟩ (.int .u8 u)).setCell ⟨g, 8, none⟩ (.int .i64 v)).setCell ⟨g, 9, none⟩ (.int .i64 n))
section
variable {w w0 : World} {g : Nat} {ty : TypeId}
theorem pt_store {kd0 t0 o0 a0 c0 p0 q0 u0 v0 n0 : Int} (H : Blk w g (ptx kd0 t0 o0 a0 c0 p0 q0 u0 v0 n0) ty) (kd t o a c p q u v n : Int) : Blk (storePt w g kd t o a c p q u v n) g (ptx kd t o a c p q u v n) ty := by
  have h0 := H.set' 0 (.int .i64 kd) (cs' := ptx kd t0 o0 a0 c0 p0 q0 u0 v0 n0) rfl
  have h1 := h0.set' 1 (.int .i64 t) (cs' := ptx kd t o0 a0 c0 p0 q0 u0 v0 n0) rfl
  have h2 := h1.set' 2 (.int .i64 o) (cs' := ptx kd t o a0 c0 p0 q0 u0 v0 n0) rfl
  have h3 := h2.set' 3 (.int .u32 a) (cs' := ptx kd t o a c0 p0 q0 u0 v0 n0) rfl
  have h4 := h3.set' 4 (.int .u32 c) (cs' := ptx kd t o a c p0 q0 u0 v0 n0) rfl
  have h5 := h4.set' 5 (.int .u16 p) (cs' := ptx kd t o a c p q0 u0 v0 n0) rfl
  have h6 := h5.set' 6 (.int .u16 q) (cs' := ptx kd t o a c p q u0 v0 n0) rfl
  have h7 := h6.set' 7 (.int .u8 u) (cs' := ptx kd t o a c p q u v0 n0) rfl
  have h8 := h7.set' 8 (.int .i64 v) (cs' := ptx kd t o a c p q u v n0) rfl
  have h9 := h8.set' 9 (.int .i64 n) (cs' := ptx kd t o a c p q u v n) rfl
  exact h9
theorem below_storePt {B : Nat} (hb : Below B w0 w) (hg : B ≤ g) (kd t o a c p q u v n : Int) : Below B w0 (storePt w g kd t o a c p q u v n) := ((((((((((hb.setCell (p := ⟨g, 0, none⟩) hg _).setCell (p := ⟨g, 1, none⟩) hg _).setCell (p := ⟨g, 2, none⟩) hg _).setCell (p := ⟨g, 3, none⟩) hg _).setCell (p := ⟨g, 4, none⟩) hg _).setCell (p := ⟨g, 5, none⟩) hg _).setCell (p := ⟨g, 6, none⟩) hg _).setCell (p := ⟨g, 7, none⟩) hg _).setCell (p := ⟨g, 8, none⟩) hg _).setCell (p := ⟨g, 9, none⟩) hg _)
theorem pt_cells {kd t o a c p q u v n : Int} (H : Blk w g (ptx kd t o a c p q u v n) ty) : w.cell? ⟨g, 0, none⟩ = some (.int .i64 kd) ∧ w.cell? ⟨g, 1, none⟩ = some (.int .i64 t) ∧ w.cell? ⟨g, 2, none⟩ = some (.int .i64 o) ∧ w.cell? ⟨g, 3, none⟩ = some (.int .u32 a) ∧ w.cell? ⟨g, 4, none⟩ = some (.int .u32 c) ∧ w.cell? ⟨g, 5, none⟩ = some (.int .u16 p) ∧ w.cell? ⟨g, 6, none⟩ = some (.int .u16 q) ∧ w.cell? ⟨g, 7, none⟩ = some (.int .u8 u) ∧ w.cell? ⟨g, 8, none⟩ = some (.int .i64 v) ∧ w.cell? ⟨g, 9, none⟩ = some (.int .i64 n) := ⟨H.cell 0 _ rfl, H.cell 1 _ rfl, H.cell 2 _ rfl, H.cell 3 _ rfl, H.cell 4 _ rfl, H.cell 5 _ rfl, H.cell 6 _ rfl, H.cell 7 _ rfl, H.cell 8 _ rfl, H.cell 9 _ rfl⟩
theorem pt_frozen {kd t o a c p q u v n : Int} (H : Blk w g (ptx kd t o a c p q u v n) ty) : w.frozen? ⟨g, 0, none⟩ = false ∧ w.frozen? ⟨g, 1, none⟩ = false ∧ w.frozen? ⟨g, 2, none⟩ = false ∧ w.frozen? ⟨g, 3, none⟩ = false ∧ w.frozen? ⟨g, 4, none⟩ = false ∧ w.frozen? ⟨g, 5, none⟩ = false ∧ w.frozen? ⟨g, 6, none⟩ = false ∧ w.frozen? ⟨g, 7, none⟩ = false ∧ w.frozen? ⟨g, 8, none⟩ = false ∧ w.frozen? ⟨g, 9, none⟩ = false := ⟨H.frozen 0, H.frozen 1, H.frozen 2, H.frozen 3, H.frozen 4, H.frozen 5, H.frozen 6, H.frozen 7, H.frozen 8, H.frozen 9⟩
end
section
variable {b : Bs} {W : World} {S : Sh} {r : Rn}
theorem Y.lt (H : Y b S r W) : b.g < W.heap.size := by
  obtain ⟨Om, Ot, K, pv, lv, kv, H⟩ := H
  exact H.run.lt
set_option maxHeartbeats 2000000 in
theorem own_any (H : Y b S r W) (kd t o a c p q u v n : Int) : Calls Tryz.prog 83 #[ptr b.g, .agg #[.int .i64 kd, .int .i64 t, .int .i64 o, .int .u32 a, .int .u32 c, .int .u16 p, .int .u16 q, .int .u8 u, .int .i64 v, .int .i64 n]] W fun e w' => e = .returned (.agg (ptx kd r.t r.op a c p q u v n)) ∧ Below W.heap.size W w' := by
  have HX := Lib.hid ((Blk.box W (ptx kd t o a c p q u v n) 89).alloc (.cells (ptx 0 0 0 0 0 0 0 0 0 0) 89))
  have HZ := Lib.hid (Blk.box1 W (.cells (ptx kd t o a c p q u v n) 89) (ptx 0 0 0 0 0 0 0 0 0 0) 89)
  have HB := Lib.hid (((Below.refl _ W).alloc (Nat.le_refl _) (.cells (ptx kd t o a c p q u v n) 89)).alloc (by simp) (.cells (ptx 0 0 0 0 0 0 0 0 0 0) 89))
  have HY := Lib.hid H
  clear H
  go_enter Tryz.func83, Tryz.ntmps83
  go_wp2_with fail
  obtain ⟨W2, hW2⟩ : ∃ VV, (W.alloc (.cells (ptx kd t o a c p q u v n) 89)).alloc (.cells (ptx 0 0 0 0 0 0 0 0 0 0) 89) = VV := ⟨_, rfl⟩
  rw [hW2] at HX HZ HB ⊢
  obtain ⟨g, hg⟩ : ∃ v, W.heap.size = v := ⟨_, rfl⟩
  have HG : Hid (W.heap.size ≤ g) := Nat.le_of_eq hg
  have HG2 : Hid (W.heap.size ≤ g + 1) := by show _ ≤ _; omega
  rw [hg] at HX HZ ⊢
  clear hW2 hg
  refine wp_region_held_drew (S := fun w' => w'.cell? ⟨b.g, 1, none⟩ = some (.int .i64 r.t) ∧ w'.cell? ⟨b.g, 2, none⟩ = some (.int .i64 r.op)) (by kernel_rfl) (⟨(HY.out.next HB.out.drew).cell 1 (.int .i64 r.t) (fun _ _ => rfl), (HY.out.next HB.out.drew).cell 2 (.int .i64 r.op) (fun _ _ => rfl)⟩) (fun hH => ?_)
  refine wpAnyH_take (i := 0) (oi := ⟨some 5, _, _, _, _, _⟩) (v := ?v1) rfl (by kernel_rfl) (by kernel_rfl) (by kernel_rfl) (fun _ _ _ h => h) (Or.inl ⟨rfl, ?c1⟩) hH ?r1
  case c1 => (intro w' _; go_simp; (try with_reducible rfl))
  try simp only [Act.put, List.setIfInBounds_toArray, List.set_cons_zero, List.set_cons_succ]
  refine wpAnyH_take (i := 1) (oi := ⟨some 6, _, _, _, _, _⟩) (v := ?v2) rfl (by kernel_rfl) (by kernel_rfl) (by kernel_rfl) (fun _ _ _ h => h) (Or.inl ⟨rfl, ?c2⟩) hH ?r2
  case c2 => (intro w' _; go_simp; (try with_reducible rfl))
  try simp only [Act.put, List.setIfInBounds_toArray, List.set_cons_zero, List.set_cons_succ]
  refine wpAnyH_take (i := 2) (oi := ⟨some 7, _, _, _, _, _⟩) (v := ?v3) rfl (by kernel_rfl) (by kernel_rfl) (by kernel_rfl) (fun _ _ _ h => h) (Or.inl ⟨rfl, ?c3⟩) hH ?r3
  case c3 => (intro w' _; go_simp; (try with_reducible rfl))
  try simp only [Act.put, List.setIfInBounds_toArray, List.set_cons_zero, List.set_cons_succ]
  refine wpAnyH_take (i := 3) (oi := ⟨some 8, _, _, _, _, _⟩) (v := ?v4) rfl (by kernel_rfl) (by kernel_rfl) (by kernel_rfl) (fun _ _ _ h => h) (Or.inl ⟨rfl, ?c4⟩) hH ?r4
  case c4 => (intro w' hS; (try dsimp only at hS); go_simp; (try with_reducible rfl))
  try simp only [Act.put, List.setIfInBounds_toArray, List.set_cons_zero, List.set_cons_succ]
  refine wpAnyH_take (i := 4) (oi := ⟨some 9, _, _, _, _, _⟩) (v := ?v5) rfl (by kernel_rfl) (by kernel_rfl) (by kernel_rfl) (fun _ _ _ h => h) (Or.inl ⟨rfl, ?c5⟩) hH ?r5
  case c5 => (intro w' _; go_simp; (try with_reducible rfl))
  try simp only [Act.put, List.setIfInBounds_toArray, List.set_cons_zero, List.set_cons_succ]
  refine wpAnyH_take (i := 5) (oi := ⟨some 10, _, _, _, _, _⟩) (v := ?v6) rfl (by kernel_rfl) (by kernel_rfl) (by kernel_rfl) (fun _ _ _ h => h) (Or.inl ⟨rfl, ?c6⟩) hH ?r6
  case c6 => (intro w' _; go_simp; (try with_reducible rfl))
  try simp only [Act.put, List.setIfInBounds_toArray, List.set_cons_zero, List.set_cons_succ]
  refine wpAnyH_take (i := 6) (oi := ⟨some 11, _, _, _, _, _⟩) (v := ?v7) rfl (by kernel_rfl) (by kernel_rfl) (by kernel_rfl) (fun _ _ _ h => h) (Or.inl ⟨rfl, ?c7⟩) hH ?r7
  case c7 => (intro w' _; go_simp; (try with_reducible rfl))
  try simp only [Act.put, List.setIfInBounds_toArray, List.set_cons_zero, List.set_cons_succ]
  refine wpAnyH_take (i := 7) (oi := ⟨some 12, _, _, _, _, _⟩) (v := ?v8) rfl (by kernel_rfl) (by kernel_rfl) (by kernel_rfl) (fun _ _ _ h => h) (Or.inl ⟨rfl, ?c8⟩) hH ?r8
  case c8 => (intro w' hS; (try dsimp only at hS); go_simp; (try with_reducible rfl))
  try simp only [Act.put, List.setIfInBounds_toArray, List.set_cons_zero, List.set_cons_succ]
  refine wpAnyH_take (i := 8) (oi := ⟨some 13, _, _, _, _, _⟩) (v := ?v9) rfl (by kernel_rfl) (by kernel_rfl) (by kernel_rfl) (fun _ _ _ h => h) (Or.inl ⟨rfl, ?c9⟩) hH ?r9
  case c9 => (intro w' _; go_simp; (try with_reducible rfl))
  try simp only [Act.put, List.setIfInBounds_toArray, List.set_cons_zero, List.set_cons_succ]
  refine wpAnyH_ready (rs := [9]) (by kernel_rfl) (by simp) (AllReadyH.cons rfl (fun K hK => ?_) (AllReadyH.nil))
  obtain ⟨W2d, hd⟩ : ∃ VV, W2.drew = VV := ⟨_, rfl⟩
  have HX1 : Hid (Blk W2d g (ptx kd t o a c p q u v n) 89) := hd ▸ Lib.hid HX.out.drew
  have HZ1 : Hid (Blk W2d (g + 1) (ptx 0 0 0 0 0 0 0 0 0 0) 89) := hd ▸ Lib.hid HZ.out.drew
  have HB1 : Hid (Below W.heap.size W W2d) := hd ▸ Lib.hid HB.out.drew
  rw [hd] at hH ⊢
  clear hd HX HZ HB
  have c1 := HX1.out.cell 1 _ rfl
  have f1 := HX1.out.frozen 1
  go_simp
  clear c1 f1
  refine hK.out _ _ (⟨(HY.out.next (HB1.out.setCell (p := ⟨g, 1, none⟩) HG.out _)).cell 1 (.int .i64 r.t) (fun _ _ => rfl), (HY.out.next (HB1.out.setCell (p := ⟨g, 1, none⟩) HG.out _)).cell 2 (.int .i64 r.op) (fun _ _ => rfl)⟩) (fun hH => ?_)
  clear hK K
  have HX2 := Lib.hid (HX1.out.set' 1 (.int .i64 r.t) (cs' := ptx kd r.t o a c p q u v n) rfl)
  have HB2 := Lib.hid (HB1.out.setCell (p := ⟨g, 1, none⟩) HG.out (.int .i64 r.t))
  have HZ2 := Lib.hid (HZ1.out.other g 1 (by omega) (.int .i64 r.t))
  generalize W2d.setCell ⟨g, 1, none⟩ (.int .i64 r.t) = W3 at hH HX2 HB2 HZ2 ⊢
  clear HX1 HB1 HZ1
  try simp only [Act.put, List.setIfInBounds_toArray, List.set_cons_zero, List.set_cons_succ]
  refine wpAnyH_take (i := 10) (oi := ⟨some 14, _, _, _, _, _⟩) (v := ?v10) rfl (by kernel_rfl) (by kernel_rfl) (by kernel_rfl) (fun _ _ _ h => h) (Or.inl ⟨rfl, ?c10⟩) hH ?r10
  case c10 => (intro w' _; go_simp; (try with_reducible rfl))
  try simp only [Act.put, List.setIfInBounds_toArray, List.set_cons_zero, List.set_cons_succ]
  refine wpAnyH_ready (rs := [11]) (by kernel_rfl) (by simp) (AllReadyH.cons rfl (fun K hK => ?_) (AllReadyH.nil))
  have c1 := HX2.out.cell 2 _ rfl
  have f1 := HX2.out.frozen 2
  go_simp
  clear c1 f1
  refine hK.out _ _ (⟨(HY.out.next (HB2.out.setCell (p := ⟨g, 2, none⟩) HG.out _)).cell 1 (.int .i64 r.t) (fun _ _ => rfl), (HY.out.next (HB2.out.setCell (p := ⟨g, 2, none⟩) HG.out _)).cell 2 (.int .i64 r.op) (fun _ _ => rfl)⟩) (fun hH => ?_)
  clear hK K
  have HX3 := Lib.hid (HX2.out.set' 2 (.int .i64 r.op) (cs' := ptx kd r.t r.op a c p q u v n) rfl)
  have HB3 := Lib.hid (HB2.out.setCell (p := ⟨g, 2, none⟩) HG.out (.int .i64 r.op))
  have HZ3 := Lib.hid (HZ2.out.other g 2 (by omega) (.int .i64 r.op))
  generalize W3.setCell ⟨g, 2, none⟩ (.int .i64 r.op) = W4 at hH HX3 HB3 HZ3 ⊢
  clear HX2 HB2 HZ2
  try simp only [Act.put, List.setIfInBounds_toArray, List.set_cons_zero, List.set_cons_succ]
  refine wpAnyH_done (by kernel_rfl) ?_ _
  clear hH
  obtain ⟨x0, x1, x2, x3, x4, x5, x6, x7, x8, x9⟩ := pt_cells HX3.out
  obtain ⟨f0, f1, f2, f3, f4, f5, f6, f7, f8, f9⟩ := pt_frozen HZ3.out
  obtain ⟨y0, y1, y2, y3, y4, y5, y6, y7, y8, y9⟩ := pt_cells HZ3.out
  go_wp2_with fail
  have HR := pt_store HZ3.out kd r.t r.op a c p q u v n
  obtain ⟨r0, r1, r2, r3, r4, r5, r6, r7, r8, r9⟩ := pt_cells HR
  exact bodyPost_ret (v := .agg (ptx kd r.t r.op a c p q u v n)) (by simp [results, Tryz.results83, go_sem, r0, r1, r2, r3, r4, r5, r6, r7, r8, r9]) rfl ⟨rfl, below_storePt HB3.out HG2.out kd r.t r.op a c p q u v n⟩
theorem pt_info : (Tryz.prog.info? 89).map (fun i => (i.zero, i.size, i.bytes)) = some (some (.agg (ptx 0 0 0 0 0 0 0 0 0 0)), 10, 56) := by kernel_rfl
theorem YR.grown {Om Ot K : Nat → Prop} {pv lv kv : Value} {w' : World} (H : YR b Om Ot K pv lv kv S r W) (hg : W.grownBy w' pv.ownBlock) : w'.cell? ⟨b.g, 0, none⟩ = some (ptr b.B) ∧ w'.cell? ⟨b.B, 21, none⟩ = some pv ∧ w'.frozen? ⟨b.B, 21, none⟩ = false ∧ Only (fun j => pv.ownBlock = some j) W w' := by
  have ho : Only (fun j => pv.ownBlock = some j) W w' := Only.grown hg fun k e => e
  have h1 := H.run.only ho fun e => H.dg (.inr (.inr (.inr (.inr e))))
  have h2 := H.blk.only ho fun e => (H.dp _ e).2.2.1 rfl
  exact ⟨h1.cell 0 _ rfl, h2.cell 21 _ rfl, h2.frozen 21, ho⟩
theorem pts_le {Om Ot K : Nat → Prop} {pv lv kv : Value} (H : YR b Om Ot K pv lv kv S r W) : b.w0.heap.size ≤ W.heap.size := H.bel.size
set_option maxHeartbeats 2000000 in
theorem record_any (H : Y b S r W) (hr : Rm 0 S) (kd : Int) (k : Ke) (v n : Int) : Calls Tryz.prog 44 #[ptr b.g, .agg #[.int .i64 kd, .int .i64 0, .int .i64 0, .int .u32 (k.a : Int), .int .u32 (k.b : Int), .int .u16 (k.p : Int), .int .u16 (k.q : Int), .int .u8 (k.r : Int), .int .i64 v, .int .i64 n]] W (Yd b U (say S r kd k v n) r) := by
  have HOW : Hid (∀ W', Y b S r W' → Calls Tryz.prog 83 #[ptr b.g, .agg #[.int .i64 kd, .int .i64 0, .int .i64 0, .int .u32 (k.a : Int), .int .u32 (k.b : Int), .int .u16 (k.p : Int), .int .u16 (k.q : Int), .int .u8 (k.r : Int), .int .i64 v, .int .i64 n]] W' fun e w' => e = .returned (.agg (ptx kd r.t r.op (k.a : Int) (k.b : Int) (k.p : Int) (k.q : Int) (k.r : Int) v n)) ∧ Below W'.heap.size W' w') := fun W' h => own_any h kd 0 0 (k.a : Int) (k.b : Int) (k.p : Int) (k.q : Int) (k.r : Int) v n
  obtain ⟨Om, Ot, K, pv, lv, kv, HR⟩ := H
  obtain ⟨A, c, rfl, hc1, hc2⟩ := row_form HR.pts
  have hp := hr.p
  have HX := Lib.hid (Blk.box W (ptx kd 0 0 (k.a : Int) (k.b : Int) (k.p : Int) (k.q : Int) (k.r : Int) v n) 89)
  have HNX : Hid (¬ some W.heap.size = (Value.slice A S.pts.length c).ownBlock) := fun e => by have := (HR.pts.lt _ e.symm).2; omega
  have H1 := Lib.hid (HR.next ((Below.refl _ W).alloc (Nat.le_refl _) (.cells (ptx kd 0 0 (k.a : Int) (k.b : Int) (k.p : Int) (k.q : Int) (k.r : Int) v n) 89)))
  clear HR hr
  go_enter Tryz.func44, Tryz.ntmps44
  go_wp2_with fail
  obtain ⟨W1, hW1⟩ : ∃ VV, W.alloc (.cells (ptx kd 0 0 (k.a : Int) (k.b : Int) (k.p : Int) (k.q : Int) (k.r : Int) v n) 89) = VV := ⟨_, rfl⟩
  rw [hW1] at HX H1 ⊢
  obtain ⟨gx, hgx⟩ : ∃ VV, W.heap.size = VV := ⟨_, rfl⟩
  rw [hgx] at HX HNX ⊢
  clear hW1 hgx
  refine region_e (S := fun w' => w'.cell? ⟨b.g, 0, none⟩ = some (ptr b.B) ∧ w'.cell? ⟨b.B, 21, none⟩ = some (.slice A S.pts.length c) ∧ Hid (Blk w' gx (ptx kd 0 0 (k.a : Int) (k.b : Int) (k.p : Int) (k.q : Int) (k.r : Int) v n) 89)) 18 (by kernel_rfl) (⟨(H1.out.next (Below.refl _ W1).drew).run.cell 0 _ rfl, (H1.out.next (Below.refl _ W1).drew).blk.cell 21 _ rfl, Lib.hid HX.out.drew⟩) (fun hH => ?_)
  refine anyE_take (i := 0) (oi := ⟨some 4, _, _, _, _, _⟩) (v := ?v1) rfl (by kernel_rfl) (by kernel_rfl) (by kernel_rfl) (by kernel_rfl) (fun _ _ _ h => h) (Or.inl ⟨rfl, ?c1⟩) hH ?r1
  case c1 => (intro w' _; go_simp; (try with_reducible rfl))
  try simp only [Act.put, List.setIfInBounds_toArray, List.set_cons_zero, List.set_cons_succ]
  refine anyE_take (i := 1) (oi := ⟨some 5, _, _, _, _, _⟩) (v := ?v2) rfl (by kernel_rfl) (by kernel_rfl) (by kernel_rfl) (by kernel_rfl) (fun _ _ _ h => h) (Or.inl ⟨rfl, ?c2⟩) hH ?r2
  case c2 => (intro w' _; go_simp; (try with_reducible rfl))
  try simp only [Act.put, List.setIfInBounds_toArray, List.set_cons_zero, List.set_cons_succ]
  refine anyE_take (i := 2) (oi := ⟨some 6, _, _, _, _, _⟩) (v := ?v3) rfl (by kernel_rfl) (by kernel_rfl) (by kernel_rfl) (by kernel_rfl) (fun _ _ _ h => h) (Or.inl ⟨rfl, ?c3⟩) hH ?r3
  case c3 => (intro w' _; go_simp; (try with_reducible rfl))
  try simp only [Act.put, List.setIfInBounds_toArray, List.set_cons_zero, List.set_cons_succ]
  refine anyE_take (i := 3) (oi := ⟨some 7, _, _, _, _, _⟩) (v := ?v4) rfl (by kernel_rfl) (by kernel_rfl) (by kernel_rfl) (by kernel_rfl) (fun _ _ _ h => h) (Or.inl ⟨rfl, ?c4⟩) hH ?r4
  case c4 => (intro w' hS; (try dsimp only at hS); go_simp; (try with_reducible rfl))
  try simp only [Act.put, List.setIfInBounds_toArray, List.set_cons_zero, List.set_cons_succ]
  refine anyE_take (i := 4) (oi := ⟨some 8, _, _, _, _, _⟩) (v := ?v5) rfl (by kernel_rfl) (by kernel_rfl) (by kernel_rfl) (by kernel_rfl) (fun _ _ _ h => h) (Or.inl ⟨rfl, ?c5⟩) hH ?r5
  case c5 => (intro w' _; go_simp; (try with_reducible rfl))
  try simp only [Act.put, List.setIfInBounds_toArray, List.set_cons_zero, List.set_cons_succ]
  refine anyE_take (i := 5) (oi := ⟨some 9, _, _, _, _, _⟩) (v := ?v6) rfl (by kernel_rfl) (by kernel_rfl) (by kernel_rfl) (by kernel_rfl) (fun _ _ _ h => h) (Or.inl ⟨rfl, ?c6⟩) hH ?r6
  case c6 => (intro w' _; go_simp; (try with_reducible rfl))
  try simp only [Act.put, List.setIfInBounds_toArray, List.set_cons_zero, List.set_cons_succ]
  refine anyE_take (i := 6) (oi := ⟨some 10, _, _, _, _, _⟩) (v := ?v7) rfl (by kernel_rfl) (by kernel_rfl) (by kernel_rfl) (by kernel_rfl) (fun _ _ _ h => h) (Or.inl ⟨rfl, ?c7⟩) hH ?r7
  case c7 => (intro w' _; go_simp; (try with_reducible rfl))
  try simp only [Act.put, List.setIfInBounds_toArray, List.set_cons_zero, List.set_cons_succ]
  refine anyE_take (i := 7) (oi := ⟨some 11, _, _, _, _, _⟩) (v := ?v8) rfl (by kernel_rfl) (by kernel_rfl) (by kernel_rfl) (by kernel_rfl) (fun _ _ _ h => h) (Or.inl ⟨rfl, ?c8⟩) hH ?r8
  case c8 => (intro w' hS; (try dsimp only at hS); go_simp; (try with_reducible rfl))
  try simp only [Act.put, List.setIfInBounds_toArray, List.set_cons_zero, List.set_cons_succ]
  refine anyE_take (i := 8) (oi := ⟨some 12, _, _, _, _, _⟩) (v := ?v9) rfl (by kernel_rfl) (by kernel_rfl) (by kernel_rfl) (by kernel_rfl) (fun _ _ _ h => h) (Or.inl ⟨rfl, ?c9⟩) hH ?r9
  case c9 => (intro w' _; go_simp; (try with_reducible rfl))
  try simp only [Act.put, List.setIfInBounds_toArray, List.set_cons_zero, List.set_cons_succ]
  refine anyE_take (i := 9) (oi := ⟨some 13, _, _, _, _, _⟩) (v := ?v10) rfl (by kernel_rfl) (by kernel_rfl) (by kernel_rfl) (by kernel_rfl) (fun _ _ _ h => h) (Or.inl ⟨rfl, ?c10⟩) hH ?r10
  case c10 => (intro w' _; go_simp; (try with_reducible rfl))
  try simp only [Act.put, List.setIfInBounds_toArray, List.set_cons_zero, List.set_cons_succ]
  refine anyE_take (i := 10) (oi := ⟨some 14, _, _, _, _, _⟩) (v := ?v11) rfl (by kernel_rfl) (by kernel_rfl) (by kernel_rfl) (by kernel_rfl) (fun _ _ _ h => h) (Or.inl ⟨rfl, ?c11⟩) hH ?r11
  case c11 => (intro w' hS; (try dsimp only at hS); go_simp; (try with_reducible rfl))
  try simp only [Act.put, List.setIfInBounds_toArray, List.set_cons_zero, List.set_cons_succ]
  refine anyE_take (i := 11) (oi := ⟨some 15, _, _, _, _, _⟩) (v := ?v12) rfl (by kernel_rfl) (by kernel_rfl) (by kernel_rfl) (by kernel_rfl) (fun _ _ _ h => h) (Or.inl ⟨rfl, ?c12⟩) hH ?r12
  case c12 => (intro w' _; go_simp; (try with_reducible rfl))
  try simp only [Act.put, List.setIfInBounds_toArray, List.set_cons_zero, List.set_cons_succ]
  refine anyE_take (i := 12) (oi := ⟨some 16, _, _, _, _, _⟩) (v := ?v13) rfl (by kernel_rfl) (by kernel_rfl) (by kernel_rfl) (by kernel_rfl) (fun _ _ _ h => h) (Or.inl ⟨rfl, ?c13⟩) hH ?r13
  case c13 => (intro w' hS; obtain ⟨x0, x1, x2, x3, x4, x5, x6, x7, x8, x9⟩ := pt_cells hS.2.2.out; go_simp; (try with_reducible rfl))
  try simp only [Act.put, List.setIfInBounds_toArray, List.set_cons_zero, List.set_cons_succ]
  refine anyE_ready (rs := [13]) (by kernel_rfl) (by simp) (AllE.cons rfl (fun K hK => ?_) (AllE.nil))
  go_simp
  go_at_call 83
  refine (HOW.out _ ⟨_, _, _, _, _, _, (H1.out.next (Below.refl _ W1).drew)⟩).mono ?_
  rintro e w2 ⟨rfl, hb⟩
  have H2 := Lib.hid ((H1.out.next (Below.refl _ W1).drew).next hb)
  have HX2 := Lib.hid (HX.out.drew.next hb)
  clear hb H1 HX
  refine hK.out _ _ (⟨H2.out.run.cell 0 _ rfl, H2.out.blk.cell 21 _ rfl, HX2⟩) (fun hH => ?_)
  clear hK K
  try simp only [Act.put, List.setIfInBounds_toArray, List.set_cons_zero, List.set_cons_succ]
  refine anyE_ready (rs := [14]) (by kernel_rfl) (by simp) (AllE.cons rfl (fun K hK => ?_) (AllE.nil))
  go_simp
  refine hK.out _ _ (⟨(H2.out.next ((Below.refl _ w2).alloc (Nat.le_refl _) _)).run.cell 0 _ rfl, (H2.out.next ((Below.refl _ w2).alloc (Nat.le_refl _) _)).blk.cell 21 _ rfl, Lib.hid (HX2.out.alloc _)⟩) (fun hH => ?_)
  clear hK K
  have H3 := Lib.hid (H2.out.next ((Below.refl _ w2).alloc (Nat.le_refl _) (.cells (ptx kd r.t r.op (k.a : Int) (k.b : Int) (k.p : Int) (k.q : Int) (k.r : Int) v n) 89)))
  have HX3 := Lib.hid (Blk.box w2 (ptx kd r.t r.op (k.a : Int) (k.b : Int) (k.p : Int) (k.q : Int) (k.r : Int) v n) 89)
  clear HX2 H2
  generalize w2.heap.size = gs at *
  generalize w2.alloc (.cells (ptx kd r.t r.op (k.a : Int) (k.b : Int) (k.p : Int) (k.q : Int) (k.r : Int) v n) 89) = w3 at *
  try simp only [Act.put, List.setIfInBounds_toArray, List.set_cons_zero, List.set_cons_succ]
  refine anyE_ready (rs := [15]) (by kernel_rfl) (by simp) (AllE.cons rfl (fun K hK => ?_) (AllE.nil))
  refine step_push1 b.w0.heap.size (S.pts.length + 1) rfl (.tmp 14) (.tmp 18) 52 89 rfl Tryz.underlying52 _ 10 56 pt_info rfl (by omega) (by omega) _ S.pts.length (pcs S.pts) rfl (pts_le H3.out) H3.out.pts (ptx kd r.t r.op (k.a : Int) (k.b : Int) (k.p : Int) (k.q : Int) (k.r : Int) v n).toList rfl (by intro u hu; simp at hu; rcases hu with rfl | rfl | rfl | rfl | rfl | rfl | rfl | rfl | rfl | rfl <;> rfl) gs (cells_of HX3.out) rfl rfl (by omega) ?_
  intro A5 c5 w4 ho hg hor
  change K (Act.put _ (some 19) _) _
  have HG := Lib.hid (H3.out.grown hg.out)
  refine hK.out _ _ (⟨HG.out.1, HG.out.2.1, Lib.hid (hH.2.2.out.keep (hg.out.block _ hH.2.2.out.lt (fun e => HNX.out e)))⟩) (fun hH => ?_)
  clear hK K
  try simp only [Act.put, List.setIfInBounds_toArray, List.set_cons_zero, List.set_cons_succ]
  refine anyF_take [17] (i := 16) (oi := ⟨some 20, _, _, _, _, _⟩) (v := ?v14) rfl (by kernel_rfl) (by kernel_rfl) (by kernel_rfl) (by kernel_rfl) (fun _ _ _ h => h) (Or.inl ⟨rfl, ?c14⟩) hH ?r14
  case c14 => (intro w' _; go_simp; (try with_reducible rfl))
  try simp only [Act.put, List.setIfInBounds_toArray, List.set_cons_zero, List.set_cons_succ]
  refine anyE_take (i := 17) (oi := ⟨some 21, _, _, _, _, _⟩) (v := ?v15) rfl (by kernel_rfl) (by kernel_rfl) (by kernel_rfl) (by kernel_rfl) (fun _ _ _ h => h) (Or.inl ⟨rfl, ?c15⟩) hH ?r15
  case c15 => (intro w' _; go_simp; (try with_reducible rfl))
  try simp only [Act.put, List.setIfInBounds_toArray, List.set_cons_zero, List.set_cons_succ]
  refine anyE_ready (rs := [18]) (by kernel_rfl) (by simp) (AllE.end_ rfl (fun K hK => ?_))
  have c0 := HG.out.2.1
  have f0 := HG.out.2.2.1
  go_simp
  clear c0 f0
  refine hK.out _ _ ?_
  clear hK K
  try simp only [Act.put, List.setIfInBounds_toArray, List.set_cons_zero, List.set_cons_succ]
  refine anyE_done (by kernel_rfl) ?_ _
  have HP : Hid (w4.ownsRow b.w0.heap.size 89 10 (.slice A5 (S.pts.length + 1) c5) (S.pts ++ [(⟨kd, r.t, r.op, k, v, n⟩ : Pt)]).length (pcs (S.pts ++ [(⟨kd, r.t, r.op, k, v, n⟩ : Pt)]))) := by
    rw [pcs_add, List.length_append]; exact ho
  have HV : Hid (∀ j, (Value.slice A5 (S.pts.length + 1) c5).ownBlock = some j → (Value.slice A S.pts.length c).ownBlock = some j ∨ w3.heap.size ≤ j) := fun j hj => by
    rcases hor.out with h | ⟨g', h, h2, _⟩
    · exact .inl (h ▸ hj)
    · rw [h] at hj
      exact .inr (Option.some.inj hj ▸ h2)
  have HE := Lib.hid (H3.out.points HG.out.2.2.2 HP.out HV.out)
  clear hH HG ho hg hor
  go_wp2_with fail
  go_end0
  exact ⟨rfl, _, _, _, _, _, _, HE.out⟩
end
end Pg
end Go.Proofs.YtcockldefmmhbaaGreatDoor
/- Layer 21: Done, Gate, Stat, Log. (Written by wip/tools/mkPrgT.py.) -/
set_option linter.unusedVariables false
set_option linter.unusedSimpArgs false
set_option maxRecDepth 100000
namespace Go.Proofs.YtcockldefmmhbaaGreatDoor
open Go.ChangeShapes Go.WideShapes Go.ChangeAt Go.RowKit Go.Mtl Go.Lib
namespace Pg
open MemM (Ms lookV loadS swapB swapS holdV lockB lockS unlockS touchS moreS)
open RulM (R)
open AutM (Ke)
open Me (ptr)
open Tb (TAt TM Fw)
section
variable {b : Bs} {W : World} {Om Ot K : Nat → Prop} {pv lv kv : Value} {S : Sh} {r : Rn} {g : Nat}
abbrev rpc (e v n : Int) : Array Value := #[.int .i64 e, .int .i64 v, .int .i64 n]
/-- What Done answers. -/
def doneV (r : Rn) : Value := if r.en then .tuple #[.agg (rpc r.e r.v r.n), .bool true] else .tuple #[.agg (rpc 0 0 0), .bool false]
theorem below_box (w : World) (o : Obj) : Below w.heap.size w (w.alloc o) := (Below.refl _ w).alloc (Nat.le_refl _) o
theorem done_any (H : RB b Om Ot K pv g lv kv r W) : Calls Tryz.prog 17 #[ptr g] W fun e w' => e = .returned (doneV r) ∧ Below W.heap.size W w' := by
  have H1 := H.next (below_box W (.cells (rpc 0 0 0) 49))
  have y6 := H1.run.cell 6 (.bool r.en) rfl
  have y7 := H1.run.cell 7 (.int .i64 r.e) rfl
  have y8 := H1.run.cell 8 (.int .i64 r.v) rfl
  have y9 := H1.run.cell 9 (.int .i64 r.n) rfl
  clear H H1
  unfold doneV
  cases he : r.en with
  | false =>
    rw [he] at y6
    clear he
    go_enter Tryz.func17, Tryz.ntmps17
    go_wp2_with fail
    have HR := Blk.box W (rpc 0 0 0) 49
    have r0 := HR.cell 0 _ rfl
    have r1 := HR.cell 1 _ rfl
    have r2 := HR.cell 2 _ rfl
    exact bodyPost_ret (v := .tuple #[.agg (rpc 0 0 0), .bool false]) (by simp [results, Tryz.results17, go_sem, r0, r1, r2]) rfl ⟨rfl, below_box W _⟩
  | true =>
    rw [he] at y6
    clear he
    go_enter Tryz.func17, Tryz.ntmps17
    go_wp2_with fail
    have HR := Blk.box W (rpc r.e r.v r.n) 49
    have r0 := HR.cell 0 _ rfl
    have r1 := HR.cell 1 _ rfl
    have r2 := HR.cell 2 _ rfl
    exact bodyPost_ret (v := .tuple #[.agg (rpc r.e r.v r.n), .bool true]) (by simp [results, Tryz.results17, go_sem, r0, r1, r2]) rfl ⟨rfl, below_box W _⟩
theorem done_nil (W : World) : Calls Tryz.prog 17 #[.pointer none] W fun e w' => e = .returned (.tuple #[.agg (rpc 0 0 0), .bool false]) ∧ Below W.heap.size W w' := by
  go_enter Tryz.func17, Tryz.ntmps17
  go_wp2_with fail
  have HR := Blk.box W (rpc 0 0 0) 49
  have r0 := HR.cell 0 _ rfl
  have r1 := HR.cell 1 _ rfl
  have r2 := HR.cell 2 _ rfl
  exact bodyPost_ret (v := .tuple #[.agg (rpc 0 0 0), .bool false]) (by simp [results, Tryz.results17, go_sem, r0, r1, r2]) rfl ⟨rfl, below_box W _⟩
theorem SR.env (H : SR b Om Ot K pv S W) (he : Env b.w0) : Env W := he.below H.bel
theorem SR.word (H : SR b Om Ot K pv S W) (i : Int) : W64 (lookV S.ms i) := by
  have h := H.mem.2
  unfold MemM.lookV
  split
  · rename_i hb
    obtain ⟨j, rfl, hj⟩ := MemM.has_yes hb
    exact h.wat hj
  · exact ⟨by omega, by omega⟩
abbrev gtc (v k c : Int) : Array Value := #[.int .i64 v, .int .i64 k, .int .i64 c]
/-- The gate. -/
theorem gate_any (H : SR b Om Ot K pv S W) (he : Env b.w0) : Calls Tryz.prog 16 #[ptr b.B] W fun e w' => e = .returned (.agg (gtc (vG (lookV S.ms 0)) (kG (lookV S.ms 0)) (cG (lookV S.ms 0)))) ∧ Below W.heap.size W w' := by
  have H1 := Lib.hid (H.next (below_box W (.cells (gtc 0 0 0) 45)))
  have HW := Lib.hid (H.word 0)
  have HE := Lib.hid he
  have y0 := H1.out.blk.cell 18 (ptr b.mb) rfl
  have HZ := Lib.hid (Blk.box W (gtc 0 0 0) 45)
  have HB := Lib.hid (below_box W (.cells (gtc 0 0 0) 45))
  clear H he
  go_enter Tryz.func16, Tryz.ntmps16
  go_wp2_with fail
  go_at_call 47
  refine (Me.look_any H1.out.mem 0).mono ?_
  rintro e w1 ⟨rfl, rfl⟩
  clear y0
  go_wp2_with fail
  go_at_call 46
  refine (unpackG HW.out _ (H1.out.env HE.out)).mono ?_
  rintro e w2 ⟨rfl, hb⟩
  have HB2 := Lib.hid (HB.out.trans (hb.mono HB.out.size))
  have HZ2 := Lib.hid (HZ.out.next hb)
  clear hb HZ HB H1
  have f0 := HZ2.out.frozen 0
  have f1 := HZ2.out.frozen 1
  have f2 := HZ2.out.frozen 2
  have c0 := HZ2.out.cell 0 _ rfl
  have c1 := HZ2.out.cell 1 _ rfl
  have c2 := HZ2.out.cell 2 _ rfl
  go_wp2_with fail
  have h0 := HZ2.out.set' 0 (.int .i64 (vG (lookV S.ms 0))) (cs' := gtc (vG (lookV S.ms 0)) 0 0) rfl
  have h1 := h0.set' 1 (.int .i64 (kG (lookV S.ms 0))) (cs' := gtc (vG (lookV S.ms 0)) (kG (lookV S.ms 0)) 0) rfl
  have h2 := h1.set' 2 (.int .i64 (cG (lookV S.ms 0))) (cs' := gtc (vG (lookV S.ms 0)) (kG (lookV S.ms 0)) (cG (lookV S.ms 0))) rfl
  have r0 := h2.cell 0 _ rfl
  have r1 := h2.cell 1 _ rfl
  have r2 := h2.cell 2 _ rfl
  exact bodyPost_ret (v := .agg (gtc (vG (lookV S.ms 0)) (kG (lookV S.ms 0)) (cG (lookV S.ms 0)))) (by simp [results, Tryz.results16, go_sem, r0, r1, r2]) rfl ⟨rfl, ((HB2.out.setCell (p := ⟨W.heap.size, 0, none⟩) (Nat.le_refl _) _).setCell (p := ⟨W.heap.size, 1, none⟩) (Nat.le_refl _) _).setCell (p := ⟨W.heap.size, 2, none⟩) (Nat.le_refl _) _⟩
theorem gate_nil (W : World) : Calls Tryz.prog 16 #[.pointer none] W fun e w' => e = .returned (.agg (gtc 0 0 0)) ∧ Below W.heap.size W w' := by
  go_enter Tryz.func16, Tryz.ntmps16
  go_wp2_with fail
  have HR := Blk.box W (gtc 0 0 0) 45
  have r0 := HR.cell 0 _ rfl
  have r1 := HR.cell 1 _ rfl
  have r2 := HR.cell 2 _ rfl
  exact bodyPost_ret (v := .agg (gtc 0 0 0)) (by simp [results, Tryz.results16, go_sem, r0, r1, r2]) rfl ⟨rfl, below_box W _⟩
theorem log_any (H : SR b Om Ot K pv S W) (hl : S.ms.ls.length ≤ 1000000000000) : Calls Tryz.prog 20 #[ptr b.B] W (Me.Cloned W S.ms.ls) := by
  have HL := Lib.hid (Me.log_any H.mem hl)
  have y0 := H.blk.cell 18 (ptr b.mb) rfl
  clear H hl
  go_enter Tryz.func20, Tryz.ntmps20
  go_wp2_with fail
  go_at_call 49
  refine HL.out.mono ?_
  rintro e w1 ⟨v, rfl, h1, h2, h3⟩
  have HV : Hid (Me.Acs w1 w1.heap.size v S.ms.ls ∧ (∀ g, v.ownBlock = some g → W.heap.size ≤ g) ∧ Below W.heap.size W w1) := ⟨h1, h2, h3⟩
  clear h1 h2 h3 y0 HL
  go_wp2_with fail
  go_ret
  exact ⟨v, rfl, HV.out⟩
theorem log_nil (W : World) : Calls Tryz.prog 20 #[.pointer none] W fun e w' => e = .returned (.slice none 0 0) ∧ W = w' := by
  go_enter Tryz.func20, Tryz.ntmps20
  go_wp2_with fail
  go_ret
  exact ⟨rfl, rfl⟩
theorem keys_nil (W : World) : Calls Tryz.prog 15 #[.pointer none] W fun e w' => e = .returned (.slice none 0 0) ∧ W = w' := by
  go_enter Tryz.func15, Tryz.ntmps15
  go_wp2_with fail
  go_ret
  exact ⟨rfl, rfl⟩
theorem points_nil (W : World) : Calls Tryz.prog 19 #[.pointer none] W fun e w' => e = .returned (.slice none 0 0) ∧ W = w' := by
  go_enter Tryz.func19, Tryz.ntmps19
  go_wp2_with fail
  go_ret
  exact ⟨rfl, rfl⟩
theorem blocked_nil (W : World) : Calls Tryz.prog 18 #[.pointer none] W fun e w' => e = .returned (.bool false) ∧ Below W.heap.size W w' := by
  go_enter Tryz.func18, Tryz.ntmps18
  go_wp2_with fail
  refine wp_region_held_drew (S := fun w' => Hid (Below W.heap.size W w')) (by kernel_rfl) (Lib.hid (Below.refl _ W).drew) (fun hH => ?_)
  refine wpAnyH_take (i := 0) (oi := ⟨some 3, _, _, _, _, _⟩) (v := ?v1) rfl (by kernel_rfl) (by kernel_rfl) (by kernel_rfl) (fun _ _ _ h => h) (Or.inl ⟨rfl, ?c1⟩) hH ?r1
  case c1 => (intro w' _; go_simp; (try with_reducible rfl))
  try simp only [Act.put, List.setIfInBounds_toArray, List.set_cons_zero, List.set_cons_succ]
  refine wpAnyH_take (i := 1) (oi := ⟨some 4, _, _, _, _, _⟩) (v := ?v2) rfl (by kernel_rfl) (by kernel_rfl) (by kernel_rfl) (fun _ _ _ h => h) (Or.inl ⟨rfl, ?c2⟩) hH ?r2
  case c2 => (intro w' _; go_simp; (try with_reducible rfl))
  try simp only [Act.put, List.setIfInBounds_toArray, List.set_cons_zero, List.set_cons_succ]
  refine wpAnyH_take (i := 2) (oi := ⟨some 5, _, _, _, _, _⟩) (v := ?v3) rfl (by kernel_rfl) (by kernel_rfl) (by kernel_rfl) (fun _ _ _ h => h) (Or.inl ⟨rfl, ?c3⟩) hH ?r3
  case c3 => (intro w' _; go_simp; (try with_reducible rfl))
  try simp only [Act.put, List.setIfInBounds_toArray, List.set_cons_zero, List.set_cons_succ]
  refine wpAnyH_take (i := 3) (oi := ⟨some 6, _, _, _, _, _⟩) (v := undef) rfl (by kernel_rfl) (by kernel_rfl) (by kernel_rfl) (fun _ _ _ h => h) (Or.inr ⟨rfl, rfl⟩) hH ?_
  try simp only [Act.put, List.setIfInBounds_toArray, List.set_cons_zero, List.set_cons_succ]
  refine wpAnyH_take (i := 4) (oi := ⟨some 7, _, _, _, _, _⟩) (v := undef) rfl (by kernel_rfl) (by kernel_rfl) (by kernel_rfl) (fun _ _ _ h => h) (Or.inr ⟨rfl, rfl⟩) hH ?_
  try simp only [Act.put, List.setIfInBounds_toArray, List.set_cons_zero, List.set_cons_succ]
  refine wpAnyH_take (i := 5) (oi := ⟨some 8, _, _, _, _, _⟩) (v := undef) rfl (by kernel_rfl) (by kernel_rfl) (by kernel_rfl) (fun _ _ _ h => h) (Or.inr ⟨rfl, rfl⟩) hH ?_
  try simp only [Act.put, List.setIfInBounds_toArray, List.set_cons_zero, List.set_cons_succ]
  refine wpAnyH_take (i := 6) (oi := ⟨some 9, _, _, _, _, _⟩) (v := undef) rfl (by kernel_rfl) (by kernel_rfl) (by kernel_rfl) (fun _ _ _ h => h) (Or.inr ⟨rfl, rfl⟩) hH ?_
  try simp only [Act.put, List.setIfInBounds_toArray, List.set_cons_zero, List.set_cons_succ]
  refine wpAnyH_take (i := 7) (oi := ⟨some 10, _, _, _, _, _⟩) (v := undef) rfl (by kernel_rfl) (by kernel_rfl) (by kernel_rfl) (fun _ _ _ h => h) (Or.inr ⟨rfl, rfl⟩) hH ?_
  try simp only [Act.put, List.setIfInBounds_toArray, List.set_cons_zero, List.set_cons_succ]
  refine wpAnyH_take (i := 8) (oi := ⟨some 11, _, _, _, _, _⟩) (v := ?v9) rfl (by kernel_rfl) (by kernel_rfl) (by kernel_rfl) (fun _ _ _ h => h) (Or.inl ⟨rfl, ?c9⟩) hH ?r9
  case c9 => (intro w' _; go_simp; (try with_reducible rfl))
  try simp only [Act.put, List.setIfInBounds_toArray, List.set_cons_zero, List.set_cons_succ]
  refine wpAnyH_take (i := 9) (oi := ⟨some 12, _, _, _, _, _⟩) (v := ?v10) rfl (by kernel_rfl) (by kernel_rfl) (by kernel_rfl) (fun _ _ _ h => h) (Or.inl ⟨rfl, ?c10⟩) hH ?r10
  case c10 => (intro w' _; go_simp; (try with_reducible rfl))
  try simp only [Act.put, List.setIfInBounds_toArray, List.set_cons_zero, List.set_cons_succ]
  refine wpAnyH_take (i := 10) (oi := ⟨some 13, _, _, _, _, _⟩) (v := undef) rfl (by kernel_rfl) (by kernel_rfl) (by kernel_rfl) (fun _ _ _ h => h) (Or.inr ⟨rfl, rfl⟩) hH ?_
  try simp only [Act.put, List.setIfInBounds_toArray, List.set_cons_zero, List.set_cons_succ]
  refine wpAnyH_take (i := 11) (oi := ⟨some 14, _, _, _, _, _⟩) (v := undef) rfl (by kernel_rfl) (by kernel_rfl) (by kernel_rfl) (fun _ _ _ h => h) (Or.inr ⟨rfl, rfl⟩) hH ?_
  try simp only [Act.put, List.setIfInBounds_toArray, List.set_cons_zero, List.set_cons_succ]
  refine wpAnyH_take (i := 12) (oi := ⟨some 15, _, _, _, _, _⟩) (v := undef) rfl (by kernel_rfl) (by kernel_rfl) (by kernel_rfl) (fun _ _ _ h => h) (Or.inr ⟨rfl, rfl⟩) hH ?_
  try simp only [Act.put, List.setIfInBounds_toArray, List.set_cons_zero, List.set_cons_succ]
  refine wpAnyH_take (i := 13) (oi := ⟨some 16, _, _, _, _, _⟩) (v := undef) rfl (by kernel_rfl) (by kernel_rfl) (by kernel_rfl) (fun _ _ _ h => h) (Or.inr ⟨rfl, rfl⟩) hH ?_
  try simp only [Act.put, List.setIfInBounds_toArray, List.set_cons_zero, List.set_cons_succ]
  refine wpAnyH_take (i := 14) (oi := ⟨some 17, _, _, _, _, _⟩) (v := undef) rfl (by kernel_rfl) (by kernel_rfl) (by kernel_rfl) (fun _ _ _ h => h) (Or.inr ⟨rfl, rfl⟩) hH ?_
  try simp only [Act.put, List.setIfInBounds_toArray, List.set_cons_zero, List.set_cons_succ]
  refine wpAnyH_take (i := 15) (oi := ⟨some 18, _, _, _, _, _⟩) (v := undef) rfl (by kernel_rfl) (by kernel_rfl) (by kernel_rfl) (fun _ _ _ h => h) (Or.inr ⟨rfl, rfl⟩) hH ?_
  try simp only [Act.put, List.setIfInBounds_toArray, List.set_cons_zero, List.set_cons_succ]
  refine wpAnyH_take (i := 16) (oi := ⟨some 19, _, _, _, _, _⟩) (v := undef) rfl (by kernel_rfl) (by kernel_rfl) (by kernel_rfl) (fun _ _ _ h => h) (Or.inr ⟨rfl, rfl⟩) hH ?_
  try simp only [Act.put, List.setIfInBounds_toArray, List.set_cons_zero, List.set_cons_succ]
  refine wpAnyH_take (i := 17) (oi := ⟨some 20, _, _, _, _, _⟩) (v := undef) rfl (by kernel_rfl) (by kernel_rfl) (by kernel_rfl) (fun _ _ _ h => h) (Or.inr ⟨rfl, rfl⟩) hH ?_
  try simp only [Act.put, List.setIfInBounds_toArray, List.set_cons_zero, List.set_cons_succ]
  refine wpAnyH_take (i := 18) (oi := ⟨some 21, _, _, _, _, _⟩) (v := undef) rfl (by kernel_rfl) (by kernel_rfl) (by kernel_rfl) (fun _ _ _ h => h) (Or.inr ⟨rfl, rfl⟩) hH ?_
  try simp only [Act.put, List.setIfInBounds_toArray, List.set_cons_zero, List.set_cons_succ]
  refine wpAnyH_take (i := 19) (oi := ⟨some 22, _, _, _, _, _⟩) (v := undef) rfl (by kernel_rfl) (by kernel_rfl) (by kernel_rfl) (fun _ _ _ h => h) (Or.inr ⟨rfl, rfl⟩) hH ?_
  try simp only [Act.put, List.setIfInBounds_toArray, List.set_cons_zero, List.set_cons_succ]
  refine wpAnyH_take (i := 20) (oi := ⟨some 23, _, _, _, _, _⟩) (v := undef) rfl (by kernel_rfl) (by kernel_rfl) (by kernel_rfl) (fun _ _ _ h => h) (Or.inr ⟨rfl, rfl⟩) hH ?_
  try simp only [Act.put, List.setIfInBounds_toArray, List.set_cons_zero, List.set_cons_succ]
  refine wpAnyH_take (i := 21) (oi := ⟨some 24, _, _, _, _, _⟩) (v := undef) rfl (by kernel_rfl) (by kernel_rfl) (by kernel_rfl) (fun _ _ _ h => h) (Or.inr ⟨rfl, rfl⟩) hH ?_
  try simp only [Act.put, List.setIfInBounds_toArray, List.set_cons_zero, List.set_cons_succ]
  refine wpAnyH_take (i := 22) (oi := ⟨some 25, _, _, _, _, _⟩) (v := undef) rfl (by kernel_rfl) (by kernel_rfl) (by kernel_rfl) (fun _ _ _ h => h) (Or.inr ⟨rfl, rfl⟩) hH ?_
  try simp only [Act.put, List.setIfInBounds_toArray, List.set_cons_zero, List.set_cons_succ]
  refine wpAnyH_take (i := 23) (oi := ⟨some 26, _, _, _, _, _⟩) (v := ?v24) rfl (by kernel_rfl) (by kernel_rfl) (by kernel_rfl) (fun _ _ _ h => h) (Or.inl ⟨rfl, ?c24⟩) hH ?r24
  case c24 => (intro w' _; go_simp; (try with_reducible rfl))
  try simp only [Act.put, List.setIfInBounds_toArray, List.set_cons_zero, List.set_cons_succ]
  refine wpAnyH_take (i := 24) (oi := ⟨some 2, _, _, _, _, _⟩) (v := ?v25) rfl (by kernel_rfl) (by kernel_rfl) (by kernel_rfl) (fun _ _ _ h => h) (Or.inl ⟨rfl, ?c25⟩) hH ?r25
  case c25 => (intro w' _; go_simp; (try with_reducible rfl))
  try simp only [Act.put, List.setIfInBounds_toArray, List.set_cons_zero, List.set_cons_succ]
  refine wpAnyH_done (by kernel_rfl) ?_ _
  have HB := Lib.hid hH.out
  clear hH
  go_wp2_with fail
  go_ret
  exact ⟨rfl, HB.out⟩
theorem step_nil (W : World) : Calls Tryz.prog 14 #[.pointer none] W fun e w' => e = .returned (.bool false) ∧ W = w' := by
  go_enter Tryz.func14, Tryz.ntmps14
  go_wp2_with fail
  go_ret
  exact ⟨rfl, rfl⟩
theorem stat_nil (v : Int) (W : World) : Calls Tryz.prog 21 #[.pointer none, .int .i64 v] W fun e w' => e = .returned (.int .u64 0) ∧ W = w' := by
  go_enter Tryz.func21, Tryz.ntmps21
  go_wp2_with fail
  go_ret
  exact ⟨rfl, rfl⟩
end
end Pg
end Go.Proofs.YtcockldefmmhbaaGreatDoor
/- Layer 21: setMark, fillMark, end, counted, decide. (Written by wip/tools/mkPrgF.py.) -/
set_option linter.unusedVariables false
set_option linter.unusedSimpArgs false
set_option maxRecDepth 100000
namespace Go.Proofs.YtcockldefmmhbaaGreatDoor
open Go.ChangeShapes Go.WideShapes Go.ChangeAt Go.RowKit Go.Mtl Go.Lib
namespace Pg
open MemM (Ms lookV loadS swapB swapS holdV lockB lockS unlockS touchS moreS)
open RulM (R)
open AutM (Ke)
open Me (ptr)
open Tb (TAt TM Fw)
section
variable {b : Bs} {W : World} {S : Sh} {r : Rn}
theorem record0 (H : Y b S r W) (hr : Rm 0 S) (kd v n : Int) : Calls Tryz.prog 44 #[ptr b.g, .agg #[.int .i64 kd, .int .i64 0, .int .i64 0, .int .u32 0, .int .u32 0, .int .u16 0, .int .u16 0, .int .u8 0, .int .i64 v, .int .i64 n]] W (Yd b U (say S r kd k0 v n) r) := record_any H hr kd k0 v n
set_option maxHeartbeats 2000000 in
theorem setMark_any (H : Y b S r W) (hr : Rm 0 S) : Calls Tryz.prog 255 #[ptr b.g] W (Yd b U (markS S) (markR S r)) := by
  obtain ⟨Om, Ot, K, pv, lv, kv, HR⟩ := H
  obtain ⟨A, c, rfl, hc1, hc2⟩ := row_form HR.pts
  have hp := hr.p
  have x0 := HR.run.cell 0 _ rfl
  have x1 := HR.blk.cell 21 _ rfl
  have x2 := HR.run.cell 33 (.int .i64 (r.mr : Int)) rfl
  have f2 := HR.run.frozen 33
  have H0 := Lib.hid (HR.set (r' := markR S r) 33 (.int .i64 (S.pts.length : Int)) rfl HR.lis HR.kes)
  clear HR hr
  go_enter Tryz.func255, Tryz.ntmps255
  go_wp2_with fail
  obtain ⟨W1, hW1⟩ : ∃ VV, W.setCell ⟨b.g, 33, none⟩ (.int .i64 (S.pts.length : Int)) = VV := ⟨_, rfl⟩
  rw [hW1] at H0 ⊢
  clear hW1 x0 x1 x2 f2
  refine region_e (S := fun w' => w'.cell? ⟨b.g, 0, none⟩ = some (ptr b.B) ∧ w'.cell? ⟨b.B, 21, none⟩ = some (.slice A S.pts.length c)) 16 (by kernel_rfl) (⟨(H0.out.next (Below.refl _ W1).drew).run.cell 0 _ rfl, (H0.out.next (Below.refl _ W1).drew).blk.cell 21 _ rfl⟩) (fun hH => ?_)
  refine anyE_take (i := 0) (oi := ⟨some 13, _, _, _, _, _⟩) (v := ?v1) rfl (by kernel_rfl) (by kernel_rfl) (by kernel_rfl) (by kernel_rfl) (fun _ _ _ h => h) (Or.inl ⟨rfl, ?c1⟩) hH ?r1
  case c1 => (intro w' _; go_simp; (try with_reducible rfl))
  try simp only [Act.put, List.setIfInBounds_toArray, List.set_cons_zero, List.set_cons_succ]
  refine anyE_take (i := 1) (oi := ⟨some 14, _, _, _, _, _⟩) (v := ?v2) rfl (by kernel_rfl) (by kernel_rfl) (by kernel_rfl) (by kernel_rfl) (fun _ _ _ h => h) (Or.inl ⟨rfl, ?c2⟩) hH ?r2
  case c2 => (intro w' _; go_simp; (try with_reducible rfl))
  try simp only [Act.put, List.setIfInBounds_toArray, List.set_cons_zero, List.set_cons_succ]
  refine anyE_take (i := 2) (oi := ⟨some 15, _, _, _, _, _⟩) (v := ?v3) rfl (by kernel_rfl) (by kernel_rfl) (by kernel_rfl) (by kernel_rfl) (fun _ _ _ h => h) (Or.inl ⟨rfl, ?c3⟩) hH ?r3
  case c3 => (intro w' _; go_simp; (try with_reducible rfl))
  try simp only [Act.put, List.setIfInBounds_toArray, List.set_cons_zero, List.set_cons_succ]
  refine anyE_take (i := 3) (oi := ⟨some 16, _, _, _, _, _⟩) (v := ?v4) rfl (by kernel_rfl) (by kernel_rfl) (by kernel_rfl) (by kernel_rfl) (fun _ _ _ h => h) (Or.inl ⟨rfl, ?c4⟩) hH ?r4
  case c4 => (intro w' hS; (try dsimp only at hS); go_simp; (try with_reducible rfl))
  try simp only [Act.put, List.setIfInBounds_toArray, List.set_cons_zero, List.set_cons_succ]
  refine anyE_take (i := 4) (oi := ⟨some 17, _, _, _, _, _⟩) (v := ?v5) rfl (by kernel_rfl) (by kernel_rfl) (by kernel_rfl) (by kernel_rfl) (fun _ _ _ h => h) (Or.inl ⟨rfl, ?c5⟩) hH ?r5
  case c5 => (intro w' _; go_simp; (try with_reducible rfl))
  try simp only [Act.put, List.setIfInBounds_toArray, List.set_cons_zero, List.set_cons_succ]
  refine anyE_take (i := 5) (oi := ⟨some 18, _, _, _, _, _⟩) (v := ?v6) rfl (by kernel_rfl) (by kernel_rfl) (by kernel_rfl) (by kernel_rfl) (fun _ _ _ h => h) (Or.inl ⟨rfl, ?c6⟩) hH ?r6
  case c6 => (intro w' _; go_simp; (try with_reducible rfl))
  try simp only [Act.put, List.setIfInBounds_toArray, List.set_cons_zero, List.set_cons_succ]
  refine anyE_take (i := 6) (oi := ⟨some 19, _, _, _, _, _⟩) (v := ?v7) rfl (by kernel_rfl) (by kernel_rfl) (by kernel_rfl) (by kernel_rfl) (fun _ _ _ h => h) (Or.inl ⟨rfl, ?c7⟩) hH ?r7
  case c7 => (intro w' _; go_simp; (try with_reducible rfl))
  try simp only [Act.put, List.setIfInBounds_toArray, List.set_cons_zero, List.set_cons_succ]
  refine anyE_take (i := 7) (oi := ⟨some 20, _, _, _, _, _⟩) (v := ?v8) rfl (by kernel_rfl) (by kernel_rfl) (by kernel_rfl) (by kernel_rfl) (fun _ _ _ h => h) (Or.inl ⟨rfl, ?c8⟩) hH ?r8
  case c8 => (intro w' hS; (try dsimp only at hS); go_simp; (try with_reducible rfl))
  try simp only [Act.put, List.setIfInBounds_toArray, List.set_cons_zero, List.set_cons_succ]
  refine anyE_take (i := 8) (oi := ⟨some 21, _, _, _, _, _⟩) (v := ?v9) rfl (by kernel_rfl) (by kernel_rfl) (by kernel_rfl) (by kernel_rfl) (fun _ _ _ h => h) (Or.inl ⟨rfl, ?c9⟩) hH ?r9
  case c9 => (intro w' _; go_simp; (try with_reducible rfl))
  try simp only [Act.put, List.setIfInBounds_toArray, List.set_cons_zero, List.set_cons_succ]
  refine anyE_take (i := 9) (oi := ⟨some 22, _, _, _, _, _⟩) (v := ?v10) rfl (by kernel_rfl) (by kernel_rfl) (by kernel_rfl) (by kernel_rfl) (fun _ _ _ h => h) (Or.inl ⟨rfl, ?c10⟩) hH ?r10
  case c10 => (intro w' _; go_simp; (try with_reducible rfl))
  try simp only [Act.put, List.setIfInBounds_toArray, List.set_cons_zero, List.set_cons_succ]
  refine anyE_take (i := 10) (oi := ⟨some 23, _, _, _, _, _⟩) (v := ?v11) rfl (by kernel_rfl) (by kernel_rfl) (by kernel_rfl) (by kernel_rfl) (fun _ _ _ h => h) (Or.inl ⟨rfl, ?c11⟩) hH ?r11
  case c11 => (intro w' hS; (try dsimp only at hS); go_simp; (try with_reducible rfl))
  try simp only [Act.put, List.setIfInBounds_toArray, List.set_cons_zero, List.set_cons_succ]
  refine anyE_take (i := 11) (oi := ⟨some 24, _, _, _, _, _⟩) (v := ?v12) rfl (by kernel_rfl) (by kernel_rfl) (by kernel_rfl) (by kernel_rfl) (fun _ _ _ h => h) (Or.inl ⟨rfl, ?c12⟩) hH ?r12
  case c12 => (intro w' _; go_simp; (try with_reducible rfl))
  try simp only [Act.put, List.setIfInBounds_toArray, List.set_cons_zero, List.set_cons_succ]
  refine anyE_ready (rs := [12]) (by kernel_rfl) (by simp) (AllE.cons rfl (fun K hK => ?_) (AllE.nil))
  go_simp
  refine hK.out _ _ (⟨((H0.out.next (Below.refl _ W1).drew).next ((Below.refl _ _).alloc (Nat.le_refl _) _)).run.cell 0 _ rfl, ((H0.out.next (Below.refl _ W1).drew).next ((Below.refl _ _).alloc (Nat.le_refl _) _)).blk.cell 21 _ rfl⟩) (fun hH => ?_)
  clear hK K
  have H3 := Lib.hid ((H0.out.next ((Below.refl _ W1).alloc (Nat.le_refl _) (.cells (ptx 0 0 0 0 0 0 0 0 0 0) 89))).next (Below.refl _ _).drew)
  have HX3 := Lib.hid (Blk.box W1 (ptx 0 0 0 0 0 0 0 0 0 0) 89).drew
  clear H0
  generalize W1.heap.size = gs at *
  generalize (W1.alloc (.cells (ptx 0 0 0 0 0 0 0 0 0 0) 89)).drew = w3 at *
  try simp only [Act.put, List.setIfInBounds_toArray, List.set_cons_zero, List.set_cons_succ]
  refine anyE_ready (rs := [13]) (by kernel_rfl) (by simp) (AllE.cons rfl (fun K hK => ?_) (AllE.nil))
  refine step_push1 b.w0.heap.size (S.pts.length + 1) rfl (.tmp 23) (.tmp 25) 52 89 rfl Tryz.underlying52 _ 10 56 pt_info rfl (by omega) (by omega) _ S.pts.length (pcs S.pts) rfl (pts_le H3.out) H3.out.pts (ptx 0 0 0 0 0 0 0 0 0 0).toList rfl (by intro u hu; simp at hu; rcases hu with rfl | rfl | rfl | rfl | rfl | rfl | rfl | rfl | rfl | rfl <;> rfl) gs (cells_of HX3.out) rfl rfl (by omega) ?_
  intro A5 c5 w4 ho hg hor
  change K (Act.put _ (some 26) _) _
  have HG := Lib.hid (H3.out.grown hg.out)
  refine hK.out _ _ (⟨HG.out.1, HG.out.2.1⟩) (fun hH => ?_)
  clear hK K
  try simp only [Act.put, List.setIfInBounds_toArray, List.set_cons_zero, List.set_cons_succ]
  refine anyF_take [15] (i := 14) (oi := ⟨some 27, _, _, _, _, _⟩) (v := ?v13) rfl (by kernel_rfl) (by kernel_rfl) (by kernel_rfl) (by kernel_rfl) (fun _ _ _ h => h) (Or.inl ⟨rfl, ?c13⟩) hH ?r13
  case c13 => (intro w' _; go_simp; (try with_reducible rfl))
  try simp only [Act.put, List.setIfInBounds_toArray, List.set_cons_zero, List.set_cons_succ]
  refine anyE_take (i := 15) (oi := ⟨some 28, _, _, _, _, _⟩) (v := ?v14) rfl (by kernel_rfl) (by kernel_rfl) (by kernel_rfl) (by kernel_rfl) (fun _ _ _ h => h) (Or.inl ⟨rfl, ?c14⟩) hH ?r14
  case c14 => (intro w' _; go_simp; (try with_reducible rfl))
  try simp only [Act.put, List.setIfInBounds_toArray, List.set_cons_zero, List.set_cons_succ]
  refine anyE_ready (rs := [16]) (by kernel_rfl) (by simp) (AllE.end_ rfl (fun K hK => ?_))
  have c0 := HG.out.2.1
  have f0 := HG.out.2.2.1
  go_simp
  clear c0 f0
  refine hK.out _ _ ?_
  clear hK K
  try simp only [Act.put, List.setIfInBounds_toArray, List.set_cons_zero, List.set_cons_succ]
  refine anyE_done (by kernel_rfl) ?_ _
  have HP : Hid (w4.ownsRow b.w0.heap.size 89 10 (.slice A5 (S.pts.length + 1) c5) (S.pts ++ [p0]).length (pcs (S.pts ++ [p0]))) := by
    rw [pcs_add, List.length_append]; exact ho
  have HV : Hid (∀ j, (Value.slice A5 (S.pts.length + 1) c5).ownBlock = some j → (Value.slice A S.pts.length c).ownBlock = some j ∨ w3.heap.size ≤ j) := fun j hj => by
    rcases hor.out with h | ⟨g', h, h2, _⟩
    · exact .inl (h ▸ hj)
    · rw [h] at hj
      exact .inr (Option.some.inj hj ▸ h2)
  have HE := Lib.hid (H3.out.points HG.out.2.2.2 HP.out HV.out)
  clear hH HG ho hg hor
  go_wp2_with fail
  go_end0
  exact ⟨rfl, _, _, _, _, _, _, HE.out⟩
theorem end_any (H : Y b S r W) (hr : Rm 0 S) : Calls Tryz.prog 80 #[ptr b.g] W (Yd b U (endA S r).1 (endA S r).2) := by
  have HRC := Lib.hid (record0 H.drew hr 8 r.v r.n)
  have HY := Lib.hid H
  clear H hr
  go_enter Tryz.func80, Tryz.ntmps80
  go_wp2_with fail
  refine wp_region_held_drew (S := fun w' => w'.cell? ⟨b.g, 8, none⟩ = some (.int .i64 r.v) ∧ w'.cell? ⟨b.g, 9, none⟩ = some (.int .i64 r.n)) (by kernel_rfl) (⟨HY.out.drew.cell 8 (.int .i64 r.v) (fun _ _ => rfl), HY.out.drew.cell 9 (.int .i64 r.n) (fun _ _ => rfl)⟩) (fun hH => ?_)
  refine wpAnyH_take (i := 0) (oi := ⟨some 2, _, _, _, _, _⟩) (v := ?v1) rfl (by kernel_rfl) (by kernel_rfl) (by kernel_rfl) (fun _ _ _ h => h) (Or.inl ⟨rfl, ?c1⟩) hH ?r1
  case c1 => (intro w' _; go_simp; (try with_reducible rfl))
  try simp only [Act.put, List.setIfInBounds_toArray, List.set_cons_zero, List.set_cons_succ]
  refine wpAnyH_take (i := 1) (oi := ⟨some 3, _, _, _, _, _⟩) (v := ?v2) rfl (by kernel_rfl) (by kernel_rfl) (by kernel_rfl) (fun _ _ _ h => h) (Or.inl ⟨rfl, ?c2⟩) hH ?r2
  case c2 => (intro w' _; go_simp; (try with_reducible rfl))
  try simp only [Act.put, List.setIfInBounds_toArray, List.set_cons_zero, List.set_cons_succ]
  refine wpAnyH_take (i := 2) (oi := ⟨some 4, _, _, _, _, _⟩) (v := ?v3) rfl (by kernel_rfl) (by kernel_rfl) (by kernel_rfl) (fun _ _ _ h => h) (Or.inl ⟨rfl, ?c3⟩) hH ?r3
  case c3 => (intro w' _; go_simp; (try with_reducible rfl))
  try simp only [Act.put, List.setIfInBounds_toArray, List.set_cons_zero, List.set_cons_succ]
  refine wpAnyH_take (i := 3) (oi := ⟨some 5, _, _, _, _, _⟩) (v := ?v4) rfl (by kernel_rfl) (by kernel_rfl) (by kernel_rfl) (fun _ _ _ h => h) (Or.inl ⟨rfl, ?c4⟩) hH ?r4
  case c4 => (intro w' _; go_simp; (try with_reducible rfl))
  try simp only [Act.put, List.setIfInBounds_toArray, List.set_cons_zero, List.set_cons_succ]
  refine wpAnyH_take (i := 4) (oi := ⟨some 6, _, _, _, _, _⟩) (v := ?v5) rfl (by kernel_rfl) (by kernel_rfl) (by kernel_rfl) (fun _ _ _ h => h) (Or.inl ⟨rfl, ?c5⟩) hH ?r5
  case c5 => (intro w' _; go_simp; (try with_reducible rfl))
  try simp only [Act.put, List.setIfInBounds_toArray, List.set_cons_zero, List.set_cons_succ]
  refine wpAnyH_take (i := 5) (oi := ⟨some 7, _, _, _, _, _⟩) (v := ?v6) rfl (by kernel_rfl) (by kernel_rfl) (by kernel_rfl) (fun _ _ _ h => h) (Or.inl ⟨rfl, ?c6⟩) hH ?r6
  case c6 => (intro w' hS; (try dsimp only at hS); go_simp; (try with_reducible rfl))
  try simp only [Act.put, List.setIfInBounds_toArray, List.set_cons_zero, List.set_cons_succ]
  refine wpAnyH_take (i := 6) (oi := ⟨some 8, _, _, _, _, _⟩) (v := ?v7) rfl (by kernel_rfl) (by kernel_rfl) (by kernel_rfl) (fun _ _ _ h => h) (Or.inl ⟨rfl, ?c7⟩) hH ?r7
  case c7 => (intro w' _; go_simp; (try with_reducible rfl))
  try simp only [Act.put, List.setIfInBounds_toArray, List.set_cons_zero, List.set_cons_succ]
  refine wpAnyH_take (i := 7) (oi := ⟨some 9, _, _, _, _, _⟩) (v := ?v8) rfl (by kernel_rfl) (by kernel_rfl) (by kernel_rfl) (fun _ _ _ h => h) (Or.inl ⟨rfl, ?c8⟩) hH ?r8
  case c8 => (intro w' _; go_simp; (try with_reducible rfl))
  try simp only [Act.put, List.setIfInBounds_toArray, List.set_cons_zero, List.set_cons_succ]
  refine wpAnyH_take (i := 8) (oi := ⟨some 10, _, _, _, _, _⟩) (v := ?v9) rfl (by kernel_rfl) (by kernel_rfl) (by kernel_rfl) (fun _ _ _ h => h) (Or.inl ⟨rfl, ?c9⟩) hH ?r9
  case c9 => (intro w' _; go_simp; (try with_reducible rfl))
  try simp only [Act.put, List.setIfInBounds_toArray, List.set_cons_zero, List.set_cons_succ]
  refine wpAnyH_take (i := 9) (oi := ⟨some 11, _, _, _, _, _⟩) (v := ?v10) rfl (by kernel_rfl) (by kernel_rfl) (by kernel_rfl) (fun _ _ _ h => h) (Or.inl ⟨rfl, ?c10⟩) hH ?r10
  case c10 => (intro w' _; go_simp; (try with_reducible rfl))
  try simp only [Act.put, List.setIfInBounds_toArray, List.set_cons_zero, List.set_cons_succ]
  refine wpAnyH_take (i := 10) (oi := ⟨some 12, _, _, _, _, _⟩) (v := ?v11) rfl (by kernel_rfl) (by kernel_rfl) (by kernel_rfl) (fun _ _ _ h => h) (Or.inl ⟨rfl, ?c11⟩) hH ?r11
  case c11 => (intro w' hS; (try dsimp only at hS); go_simp; (try with_reducible rfl))
  try simp only [Act.put, List.setIfInBounds_toArray, List.set_cons_zero, List.set_cons_succ]
  refine wpAnyH_take (i := 11) (oi := ⟨some 13, _, _, _, _, _⟩) (v := ?v12) rfl (by kernel_rfl) (by kernel_rfl) (by kernel_rfl) (fun _ _ _ h => h) (Or.inl ⟨rfl, ?c12⟩) hH ?r12
  case c12 => (intro w' _; go_simp; (try with_reducible rfl))
  try simp only [Act.put, List.setIfInBounds_toArray, List.set_cons_zero, List.set_cons_succ]
  refine wpAnyH_ready (rs := [12]) (by kernel_rfl) (by simp) (AllReadyH.cons rfl (fun K hK => ?_) (AllReadyH.nil))
  go_simp
  go_at_call 44
  refine HRC.out.mono ?_
  rintro e w2 ⟨rfl, hy⟩
  refine hK.out _ _ (⟨hy.cell 8 (.int .i64 r.v) (fun _ _ => rfl), hy.cell 9 (.int .i64 r.n) (fun _ _ => rfl)⟩) (fun hH => ?_)
  clear hK K
  have H2 := Lib.hid hy
  clear hy HY HRC
  try simp only [Act.put, List.setIfInBounds_toArray, List.set_cons_zero, List.set_cons_succ]
  refine wpAnyH_done (by kernel_rfl) ?_ _
  clear hH
  have H3 := Lib.hid (H2.out.set (r' := goto r .done) 3 .nilFunc (fun _ _ => rfl) rfl rfl)
  have H4 := Lib.hid (H3.out.set (r' := (endA S r).2) 6 (.bool true) (fun _ _ => rfl) rfl rfl)
  have f0 := H2.out.frozen 3
  have f1 := H2.out.frozen 6
  have c0 := H2.out.cell 3 (nextV r.at_) (fun _ _ => rfl)
  have c1 := H2.out.cell 6 (.bool r.en) (fun _ _ => rfl)
  clear H3 H2
  go_wp2_with fail
  go_end0
  exact ⟨rfl, H4.out⟩
theorem counted_any (H : Y b S r W) (hr : Rm 1 S) : Calls Tryz.prog 141 #[ptr b.g] W (Yd b U (countedA S r).1 (countedA S r).2) := by
  have HRC := Lib.hid (record0 H (hr.mono (by omega)) 3 r.v 0)
  have HE : Hid (∀ W, Y b (say S r 3 k0 r.v 0) r W → Calls Tryz.prog 80 #[ptr b.g] W (Yd b U (countedA S r).1 (countedA S r).2)) := fun W h => end_any h (hr.say ..)
  have x0 := H.cell 8 (.int .i64 r.v) (fun _ _ => rfl)
  clear H hr
  go_enter Tryz.func141, Tryz.ntmps141
  go_wp2_with fail
  go_at_call 44
  refine HRC.out.mono ?_
  rintro e w2 ⟨rfl, hy⟩
  have H2 := Lib.hid hy
  clear hy x0 HRC
  go_wp2_with fail
  go_at_call 80
  refine (HE.out _ H2.out).mono ?_
  rintro e w3 ⟨rfl, hy⟩
  have H3 := Lib.hid hy
  clear hy H2
  go_wp2_with fail
  go_end0
  exact ⟨rfl, H3.out⟩
end
end Pg
end Go.Proofs.YtcockldefmmhbaaGreatDoor
/- Layer 21: fillMark, decide, change. (Written by wip/tools/mkPrgG.py.) -/
set_option linter.unusedVariables false
set_option linter.unusedSimpArgs false
set_option maxRecDepth 100000
namespace Go.Proofs.YtcockldefmmhbaaGreatDoor
open Go.ChangeShapes Go.WideShapes Go.ChangeAt Go.RowKit Go.Mtl Go.Lib
namespace Pg
open MemM (Ms lookV loadS swapB swapS holdV lockB lockS unlockS touchS moreS)
open RulM (R)
open AutM (Ke)
open Me (ptr)
open Tb (TAt TM Fw)
/-- Ten cells of a row of points stored anew: one point. -/
theorem pcs_len (ps : List Pt) : (pcs ps).length = ps.length * 10 := by
  unfold pcs
  induction ps with
  | nil => rfl
  | cons p ps ih => rw [List.flatMap_cons, List.length_append, ih]; simp; omega
theorem pcs_set (ps : List Pt) (i : Nat) (p : Pt) (hi : i < ps.length) : pcs (ps.set i p) = (((((((((((pcs ps).set (i * 10) (.int .i64 p.kd)).set (i * 10 + 1) (.int .i64 p.t)).set (i * 10 + 2) (.int .i64 p.op)).set (i * 10 + 3) (.int .u32 (p.k.a : Int))).set (i * 10 + 4) (.int .u32 (p.k.b : Int))).set (i * 10 + 5) (.int .u16 (p.k.p : Int))).set (i * 10 + 6) (.int .u16 (p.k.q : Int))).set (i * 10 + 7) (.int .u8 (p.k.r : Int))).set (i * 10 + 8) (.int .i64 p.v)).set (i * 10 + 9) (.int .i64 p.n)) := by
  induction ps generalizing i with
  | nil => simp at hi
  | cons q ps ih =>
    cases i with
    | zero => simp [pcs]
    | succ i =>
      have h := ih i (by simpa using hi)
      have e : ∀ j v (l : List Value), (ptc q ++ l).set ((i + 1) * 10 + j) v = ptc q ++ l.set (i * 10 + j) v := fun j v l => by
        rw [List.set_append_right _ _ (by simp; omega)]
        congr 2
        simp; omega
      have e0 : ∀ v (l : List Value), (ptc q ++ l).set ((i + 1) * 10) v = ptc q ++ l.set (i * 10) v := fun v l => e 0 v l
      show ptc q ++ pcs (ps.set i p) = _
      rw [h]
      show _ = List.set (List.set (List.set (List.set (List.set (List.set (List.set (List.set (List.set (List.set (ptc q ++ pcs ps) _ _) _ _) _ _) _ _) _ _) _ _) _ _) _ _) _ _) _ _
      rw [e0, e 1, e 2, e 3, e 4, e 5, e 6, e 7, e 8, e 9]
theorem row_at {w : World} {base e size n cap g : Nat} {xs : List Value} (h : w.ownsRow base e size (.slice (some ⟨g, 0, none⟩) n cap) n xs) (j : Nat) (hj : j < xs.length) : ∃ u, w.cell? ⟨g, j, none⟩ = some u ∧ w.frozen? ⟨g, j, none⟩ = false := by
  obtain ⟨g', c, e1, _, _, _, _, h1, h2⟩ := row_cell h (List.getElem?_eq_getElem hj)
  injection e1 with e1
  obtain rfl : g = g' := by injection Option.some.inj e1
  exact ⟨_, h1, h2⟩
section
variable {b : Bs} {W : World} {S : Sh} {r : Rn}
set_option maxHeartbeats 2000000 in
theorem fillMark_any (H : Y b S r W) (hr : Rm 0 S) (hm : r.mr < S.pts.length) (kd : Int) (k : Ke) (v n : Int) : Calls Tryz.prog 299 #[ptr b.g, .agg #[.int .i64 kd, .int .i64 0, .int .i64 0, .int .u32 (k.a : Int), .int .u32 (k.b : Int), .int .u16 (k.p : Int), .int .u16 (k.q : Int), .int .u8 (k.r : Int), .int .i64 v, .int .i64 n]] W (Yd b U { S with pts := S.pts.set r.mr ⟨kd, r.t, r.op, k, v, n⟩ } r) := by
  have HOW : Hid (∀ W', Y b S r W' → Calls Tryz.prog 83 #[ptr b.g, .agg #[.int .i64 kd, .int .i64 0, .int .i64 0, .int .u32 (k.a : Int), .int .u32 (k.b : Int), .int .u16 (k.p : Int), .int .u16 (k.q : Int), .int .u8 (k.r : Int), .int .i64 v, .int .i64 n]] W' fun e w' => e = .returned (.agg (ptx kd r.t r.op (k.a : Int) (k.b : Int) (k.p : Int) (k.q : Int) (k.r : Int) v n)) ∧ Below W'.heap.size W' w') := fun W' h => own_any h kd 0 0 (k.a : Int) (k.b : Int) (k.p : Int) (k.q : Int) (k.r : Int) v n
  obtain ⟨Om, Ot, K, pv, lv, kv, HR⟩ := H
  have hp := hr.p
  obtain ⟨gp, c, rfl⟩ : ∃ gp c, pv = .slice (some ⟨gp, 0, none⟩) S.pts.length c := by
    rcases HR.pts.2 with ⟨_, h0⟩ | ⟨g, cap, cur, e, _⟩
    · omega
    · exact ⟨g, cap, e⟩
  obtain ⟨hc1, hc2⟩ : S.pts.length ≤ c ∧ c ≤ 9223372036854775807 := by
    obtain ⟨A, c', e, h1, h2⟩ := row_form HR.pts
    injection e with _ _ e
    subst e
    exact ⟨h1, h2⟩
  have HX := Lib.hid (Blk.box W (ptx kd 0 0 (k.a : Int) (k.b : Int) (k.p : Int) (k.q : Int) (k.r : Int) v n) 89)
  have H1 := Lib.hid (HR.next ((Below.refl _ W).alloc (Nat.le_refl _) (.cells (ptx kd 0 0 (k.a : Int) (k.b : Int) (k.p : Int) (k.q : Int) (k.r : Int) v n) 89)))
  clear HR hr
  go_enter Tryz.func299, Tryz.ntmps299
  go_wp2_with fail
  obtain ⟨W1, hW1⟩ : ∃ VV, W.alloc (.cells (ptx kd 0 0 (k.a : Int) (k.b : Int) (k.p : Int) (k.q : Int) (k.r : Int) v n) 89) = VV := ⟨_, rfl⟩
  rw [hW1] at HX H1 ⊢
  obtain ⟨gx, hgx⟩ : ∃ VV, W.heap.size = VV := ⟨_, rfl⟩
  rw [hgx] at HX ⊢
  clear hW1 hgx
  refine region_e (S := fun w' => w'.cell? ⟨b.g, 0, none⟩ = some (ptr b.B) ∧ w'.cell? ⟨b.B, 21, none⟩ = some (.slice (some ⟨gp, 0, none⟩) S.pts.length c) ∧ w'.cell? ⟨b.g, 33, none⟩ = some (.int .i64 (r.mr : Int)) ∧ Hid (Blk w' gx (ptx kd 0 0 (k.a : Int) (k.b : Int) (k.p : Int) (k.q : Int) (k.r : Int) v n) 89)) 15 (by kernel_rfl) (⟨(H1.out.next (Below.refl _ W1).drew).run.cell 0 _ rfl, (H1.out.next (Below.refl _ W1).drew).blk.cell 21 _ rfl, (H1.out.next (Below.refl _ W1).drew).run.cell 33 _ rfl, Lib.hid HX.out.drew⟩) (fun hH => ?_)
  refine anyE_take (i := 0) (oi := ⟨some 4, _, _, _, _, _⟩) (v := ?v1) rfl (by kernel_rfl) (by kernel_rfl) (by kernel_rfl) (by kernel_rfl) (fun _ _ _ h => h) (Or.inl ⟨rfl, ?c1⟩) hH ?r1
  case c1 => (intro w' _; go_simp; (try with_reducible rfl))
  try simp only [Act.put, List.setIfInBounds_toArray, List.set_cons_zero, List.set_cons_succ]
  refine anyE_take (i := 1) (oi := ⟨some 5, _, _, _, _, _⟩) (v := ?v2) rfl (by kernel_rfl) (by kernel_rfl) (by kernel_rfl) (by kernel_rfl) (fun _ _ _ h => h) (Or.inl ⟨rfl, ?c2⟩) hH ?r2
  case c2 => (intro w' _; go_simp; (try with_reducible rfl))
  try simp only [Act.put, List.setIfInBounds_toArray, List.set_cons_zero, List.set_cons_succ]
  refine anyE_take (i := 2) (oi := ⟨some 6, _, _, _, _, _⟩) (v := ?v3) rfl (by kernel_rfl) (by kernel_rfl) (by kernel_rfl) (by kernel_rfl) (fun _ _ _ h => h) (Or.inl ⟨rfl, ?c3⟩) hH ?r3
  case c3 => (intro w' _; go_simp; (try with_reducible rfl))
  try simp only [Act.put, List.setIfInBounds_toArray, List.set_cons_zero, List.set_cons_succ]
  refine anyE_take (i := 3) (oi := ⟨some 7, _, _, _, _, _⟩) (v := ?v4) rfl (by kernel_rfl) (by kernel_rfl) (by kernel_rfl) (by kernel_rfl) (fun _ _ _ h => h) (Or.inl ⟨rfl, ?c4⟩) hH ?r4
  case c4 => (intro w' hS; (try dsimp only at hS); go_simp; (try with_reducible rfl))
  try simp only [Act.put, List.setIfInBounds_toArray, List.set_cons_zero, List.set_cons_succ]
  refine anyE_take (i := 4) (oi := ⟨some 8, _, _, _, _, _⟩) (v := ?v5) rfl (by kernel_rfl) (by kernel_rfl) (by kernel_rfl) (by kernel_rfl) (fun _ _ _ h => h) (Or.inl ⟨rfl, ?c5⟩) hH ?r5
  case c5 => (intro w' _; go_simp; (try with_reducible rfl))
  try simp only [Act.put, List.setIfInBounds_toArray, List.set_cons_zero, List.set_cons_succ]
  refine anyE_take (i := 5) (oi := ⟨some 9, _, _, _, _, _⟩) (v := ?v6) rfl (by kernel_rfl) (by kernel_rfl) (by kernel_rfl) (by kernel_rfl) (fun _ _ _ h => h) (Or.inl ⟨rfl, ?c6⟩) hH ?r6
  case c6 => (intro w' _; go_simp; (try with_reducible rfl))
  try simp only [Act.put, List.setIfInBounds_toArray, List.set_cons_zero, List.set_cons_succ]
  refine anyE_take (i := 6) (oi := ⟨some 10, _, _, _, _, _⟩) (v := ?v7) rfl (by kernel_rfl) (by kernel_rfl) (by kernel_rfl) (by kernel_rfl) (fun _ _ _ h => h) (Or.inl ⟨rfl, ?c7⟩) hH ?r7
  case c7 => (intro w' hS; (try dsimp only at hS); go_simp; (try with_reducible rfl))
  try simp only [Act.put, List.setIfInBounds_toArray, List.set_cons_zero, List.set_cons_succ]
  refine anyE_take (i := 7) (oi := ⟨some 11, _, _, _, _, _⟩) (v := ?v8) rfl (by kernel_rfl) (by kernel_rfl) (by kernel_rfl) (by kernel_rfl) (fun _ _ _ h => h) (Or.inl ⟨rfl, ?c8⟩) hH ?r8
  case c8 => (intro w' _; go_simp; (try with_reducible rfl))
  try simp only [Act.put, List.setIfInBounds_toArray, List.set_cons_zero, List.set_cons_succ]
  refine anyE_take (i := 8) (oi := ⟨some 12, _, _, _, _, _⟩) (v := ?v9) rfl (by kernel_rfl) (by kernel_rfl) (by kernel_rfl) (by kernel_rfl) (fun _ _ _ h => h) (Or.inl ⟨rfl, ?c9⟩) hH ?r9
  case c9 => (intro w' _; go_simp; (try with_reducible rfl))
  try simp only [Act.put, List.setIfInBounds_toArray, List.set_cons_zero, List.set_cons_succ]
  refine anyE_take (i := 9) (oi := ⟨some 13, _, _, _, _, _⟩) (v := ?v10) rfl (by kernel_rfl) (by kernel_rfl) (by kernel_rfl) (by kernel_rfl) (fun _ _ _ h => h) (Or.inl ⟨rfl, ?c10⟩) hH ?r10
  case c10 => (intro w' _; go_simp; (try with_reducible rfl))
  try simp only [Act.put, List.setIfInBounds_toArray, List.set_cons_zero, List.set_cons_succ]
  refine anyE_take (i := 10) (oi := ⟨some 14, _, _, _, _, _⟩) (v := ?v11) rfl (by kernel_rfl) (by kernel_rfl) (by kernel_rfl) (by kernel_rfl) (fun _ _ _ h => h) (Or.inl ⟨rfl, ?c11⟩) hH ?r11
  case c11 => (intro w' hS; (try dsimp only at hS); go_simp; (try with_reducible rfl))
  try simp only [Act.put, List.setIfInBounds_toArray, List.set_cons_zero, List.set_cons_succ]
  refine anyE_take (i := 11) (oi := ⟨some 15, _, _, _, _, _⟩) (v := ?v12) rfl (by kernel_rfl) (by kernel_rfl) (by kernel_rfl) (by kernel_rfl) (fun _ _ _ h => h) (Or.inl ⟨rfl, ?c12⟩) hH ?r12
  case c12 => (intro w' _; go_simp; (try with_reducible rfl))
  try simp only [Act.put, List.setIfInBounds_toArray, List.set_cons_zero, List.set_cons_succ]
  refine anyE_take (i := 12) (oi := ⟨some 16, _, _, _, _, _⟩) (v := ?v13) rfl (by kernel_rfl) (by kernel_rfl) (by kernel_rfl) (by kernel_rfl) (fun _ _ _ h => h) (Or.inl ⟨rfl, ?c13⟩) hH ?r13
  case c13 => (intro w' hS; obtain ⟨x0, x1, x2, x3, x4, x5, x6, x7, x8, x9⟩ := pt_cells hS.2.2.2.out; go_simp; (try with_reducible rfl))
  try simp only [Act.put, List.setIfInBounds_toArray, List.set_cons_zero, List.set_cons_succ]
  refine anyE_ready (rs := [13]) (by kernel_rfl) (by simp) (AllE.cons rfl (fun K hK => ?_) (AllE.nil))
  go_simp
  go_at_call 83
  refine (HOW.out _ ⟨_, _, _, _, _, _, (H1.out.next (Below.refl _ W1).drew)⟩).mono ?_
  rintro e w2 ⟨rfl, hb⟩
  have H2 := Lib.hid ((H1.out.next (Below.refl _ W1).drew).next hb)
  have HX2 := Lib.hid (HX.out.drew.next hb)
  clear hb H1 HX
  refine hK.out _ _ (⟨H2.out.run.cell 0 _ rfl, H2.out.blk.cell 21 _ rfl, H2.out.run.cell 33 _ rfl, HX2⟩) (fun hH => ?_)
  clear hK K
  try simp only [Act.put, List.setIfInBounds_toArray, List.set_cons_zero, List.set_cons_succ]
  refine anyE_take (i := 14) (oi := ⟨some 18, _, _, _, _, _⟩) (v := ?v14) rfl (by kernel_rfl) (by kernel_rfl) (by kernel_rfl) (by kernel_rfl) (fun _ _ _ h => h) (Or.inl ⟨rfl, ?c14⟩) hH ?r14
  case c14 => (intro w' _; go_simp; (try with_reducible rfl))
  try simp only [Act.put, List.setIfInBounds_toArray, List.set_cons_zero, List.set_cons_succ]
  refine anyE_ready (rs := [15]) (by kernel_rfl) (by simp) (AllE.end_ rfl (fun K hK => ?_))
  obtain ⟨u0, c0, f0⟩ := row_at H2.out.pts (r.mr * 10) (by rw [pcs_len]; omega)
  obtain ⟨u1, c1, f1⟩ := row_at H2.out.pts (r.mr * 10 + 1) (by rw [pcs_len]; omega)
  obtain ⟨u2, c2, f2⟩ := row_at H2.out.pts (r.mr * 10 + 2) (by rw [pcs_len]; omega)
  obtain ⟨u3, c3, f3⟩ := row_at H2.out.pts (r.mr * 10 + 3) (by rw [pcs_len]; omega)
  obtain ⟨u4, c4, f4⟩ := row_at H2.out.pts (r.mr * 10 + 4) (by rw [pcs_len]; omega)
  obtain ⟨u5, c5, f5⟩ := row_at H2.out.pts (r.mr * 10 + 5) (by rw [pcs_len]; omega)
  obtain ⟨u6, c6, f6⟩ := row_at H2.out.pts (r.mr * 10 + 6) (by rw [pcs_len]; omega)
  obtain ⟨u7, c7, f7⟩ := row_at H2.out.pts (r.mr * 10 + 7) (by rw [pcs_len]; omega)
  obtain ⟨u8, c8, f8⟩ := row_at H2.out.pts (r.mr * 10 + 8) (by rw [pcs_len]; omega)
  obtain ⟨u9, c9, f9⟩ := row_at H2.out.pts (r.mr * 10 + 9) (by rw [pcs_len]; omega)
  go_simp
  clear c0 f0 c1 f1 c2 f2 c3 f3 c4 f4 c5 f5 c6 f6 c7 f7 c8 f8 c9 f9
  refine hK.out _ _ ?_
  clear hK K
  try simp only [Act.put, List.setIfInBounds_toArray, List.set_cons_zero, List.set_cons_succ]
  refine anyE_done (by kernel_rfl) ?_ _
  clear hH
  have s0 := World.ownsRow.stored H2.out.pts (r.mr * 10) (.int .i64 kd)
  have s1 := World.ownsRow.stored s0.1 (r.mr * 10 + 1) (.int .i64 r.t)
  have s2 := World.ownsRow.stored s1.1 (r.mr * 10 + 2) (.int .i64 r.op)
  have s3 := World.ownsRow.stored s2.1 (r.mr * 10 + 3) (.int .u32 (k.a : Int))
  have s4 := World.ownsRow.stored s3.1 (r.mr * 10 + 4) (.int .u32 (k.b : Int))
  have s5 := World.ownsRow.stored s4.1 (r.mr * 10 + 5) (.int .u16 (k.p : Int))
  have s6 := World.ownsRow.stored s5.1 (r.mr * 10 + 6) (.int .u16 (k.q : Int))
  have s7 := World.ownsRow.stored s6.1 (r.mr * 10 + 7) (.int .u8 (k.r : Int))
  have s8 := World.ownsRow.stored s7.1 (r.mr * 10 + 8) (.int .i64 v)
  have s9 := World.ownsRow.stored s8.1 (r.mr * 10 + 9) (.int .i64 n)
  have hp2 := pcs_set S.pts r.mr ⟨kd, r.t, r.op, k, v, n⟩ hm
  have ho := (((((((((((Only.refl (fun j => (Value.slice (some ⟨gp, 0, none⟩) S.pts.length c).ownBlock = some j) w2).setCell (p := ⟨gp, r.mr * 10, none⟩) (.inl rfl) (.int .i64 kd)).setCell (p := ⟨gp, r.mr * 10 + 1, none⟩) (.inl rfl) (.int .i64 r.t)).setCell (p := ⟨gp, r.mr * 10 + 2, none⟩) (.inl rfl) (.int .i64 r.op)).setCell (p := ⟨gp, r.mr * 10 + 3, none⟩) (.inl rfl) (.int .u32 (k.a : Int))).setCell (p := ⟨gp, r.mr * 10 + 4, none⟩) (.inl rfl) (.int .u32 (k.b : Int))).setCell (p := ⟨gp, r.mr * 10 + 5, none⟩) (.inl rfl) (.int .u16 (k.p : Int))).setCell (p := ⟨gp, r.mr * 10 + 6, none⟩) (.inl rfl) (.int .u16 (k.q : Int))).setCell (p := ⟨gp, r.mr * 10 + 7, none⟩) (.inl rfl) (.int .u8 (k.r : Int))).setCell (p := ⟨gp, r.mr * 10 + 8, none⟩) (.inl rfl) (.int .i64 v)).setCell (p := ⟨gp, r.mr * 10 + 9, none⟩) (.inl rfl) (.int .i64 n))
  have HE := Lib.hid (H2.out.fill (ps := S.pts.set r.mr ⟨kd, r.t, r.op, k, v, n⟩) ho (by rw [hp2, List.length_set]; exact s9.1))
  clear s0 s1 s2 s3 s4 s5 s6 s7 s8 s9 hp2 ho
  go_wp2_with fail
  go_end0
  exact ⟨rfl, _, _, _, _, _, _, HE.out⟩
end
end Pg
end Go.Proofs.YtcockldefmmhbaaGreatDoor
