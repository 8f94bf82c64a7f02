/- Layer 12: rules compared whole; Same of two slices that read as the same rules. -/
import Derived.Test.YtfbbkbjiaopnkaaDoorRulC
import Derived.Test.YtfbbkbjiaopnkaaDoorComT
import Derived.Deep.QuietTactic
import Derived.Laws.StructEq
import Derived.KernelRfl
set_option linter.unusedVariables false
set_option linter.unusedSimpArgs false
namespace Go.Proofs.YtfbbkbjiaopnkaaDoor
open Go.ChangeShapes Go.WideShapes Go.ChangeAt Go.RowKit Go.Mtl Go.Shelf Go.Lib
namespace Ru
open RulM (R)

theorem ru_fields : Tryd.prog.underlying 42 = some (.struct (Tryd.prog.fieldsOf 42)) := by kernel_rfl
theorem ru_stood : Tryd.prog.stoodInHeld 42 = false := by kernel_rfl
theorem ru_lay : (Tryd.prog.fieldsOf 42).toList.map (fun f => (f.type, f.offset)) = [(4, 0), (5, 1), (37, 2), (37, 4), (40, 6), (40, 8)] := by kernel_rfl
theorem ru_names : (Tryd.prog.fieldsOf 42).toList.all (fun f => f.name != "_") = true := by kernel_rfl
theorem ne_fields : Tryd.prog.underlying 37 = some (.struct (Tryd.prog.fieldsOf 37)) := by kernel_rfl
theorem ne_stood : Tryd.prog.stoodInHeld 37 = false := by kernel_rfl
theorem ne_lay : (Tryd.prog.fieldsOf 37).toList.map (fun f => (f.type, f.offset)) = [(35, 0), (3, 1)] := by kernel_rfl
theorem ne_names : (Tryd.prog.fieldsOf 37).toList.all (fun f => f.name != "_") = true := by kernel_rfl
theorem sp_fields : Tryd.prog.underlying 40 = some (.struct (Tryd.prog.fieldsOf 40)) := by kernel_rfl
theorem sp_stood : Tryd.prog.stoodInHeld 40 = false := by kernel_rfl
theorem sp_lay : (Tryd.prog.fieldsOf 40).toList.map (fun f => (f.type, f.offset)) = [(38, 0), (38, 1)] := by kernel_rfl
theorem sp_names : (Tryd.prog.fieldsOf 40).toList.all (fun f => f.name != "_") = true := by kernel_rfl
theorem net_same (d : Nat) (a n : Int) (w : World) : (Op.equalIn (d + 2) 37 (.agg #[.int .u32 a, .int .i64 n]) (.agg #[.int .u32 a, .int .i64 n])).run Tryd.prog w = .ok true w := by
  rw [run_equalIn_struct w (d + 1) _ _ _ ne_fields ne_stood]
  have hl := ne_lay
  have hn := ne_names
  generalize (Tryd.prog.fieldsOf 37).toList = l at hl hn ⊢
  rcases l with _ | ⟨f1, _ | ⟨f2, _ | ⟨f3, l⟩⟩⟩ <;> simp at hl hn
  obtain ⟨⟨t1, o1⟩, t2, o2⟩ := hl
  obtain ⟨n1, n2⟩ := hn
  have c1 : (part 35 #[.int .u32 a, .int .i64 n] 0).run Tryd.prog w = .ok (.int .u32 a) w := by simp [go_sem]
  have c2 : (part 3 #[.int .u32 a, .int .i64 n] 1).run Tryd.prog w = .ok (.int .i64 n) w := by simp [go_sem]
  have q1 : (Op.equalIn (d + 1) 35 (.int .u32 a) (.int .u32 a)).run Tryd.prog w = .ok (a == a) w := run_equalIn_int w d _ .u32 .u32 a a (by kernel_rfl)
  have q2 : (Op.equalIn (d + 1) 3 (.int .i64 n) (.int .i64 n)).run Tryd.prog w = .ok (n == n) w := run_equalIn_int w d _ .i64 .i64 n n (by kernel_rfl)
  simp only [Op.eqFields, ne_eq, n1, n2, not_false_eq_true, if_true, t1, t2, o1, o2, Sem.run_bind, c1, c2, Result.andThen_ok, q1, q2, Sem.run_ite, Sem.run_pure, beq_self_eq_true]
  rfl
theorem span_same (d : Nat) (a n : Int) (w : World) : (Op.equalIn (d + 2) 40 (.agg #[.int .u16 a, .int .u16 n]) (.agg #[.int .u16 a, .int .u16 n])).run Tryd.prog w = .ok true w := by
  rw [run_equalIn_struct w (d + 1) _ _ _ sp_fields sp_stood]
  have hl := sp_lay
  have hn := sp_names
  generalize (Tryd.prog.fieldsOf 40).toList = l at hl hn ⊢
  rcases l with _ | ⟨f1, _ | ⟨f2, _ | ⟨f3, l⟩⟩⟩ <;> simp at hl hn
  obtain ⟨⟨t1, o1⟩, t2, o2⟩ := hl
  obtain ⟨n1, n2⟩ := hn
  have c1 : (part 38 #[.int .u16 a, .int .u16 n] 0).run Tryd.prog w = .ok (.int .u16 a) w := by simp [go_sem]
  have c2 : (part 38 #[.int .u16 a, .int .u16 n] 1).run Tryd.prog w = .ok (.int .u16 n) w := by simp [go_sem]
  have q1 : (Op.equalIn (d + 1) 38 (.int .u16 a) (.int .u16 a)).run Tryd.prog w = .ok (a == a) w := run_equalIn_int w d _ .u16 .u16 a a (by kernel_rfl)
  have q2 : (Op.equalIn (d + 1) 38 (.int .u16 n) (.int .u16 n)).run Tryd.prog w = .ok (n == n) w := run_equalIn_int w d _ .u16 .u16 n n (by kernel_rfl)
  simp only [Op.eqFields, ne_eq, n1, n2, not_false_eq_true, if_true, t1, t2, o1, o2, Sem.run_bind, c1, c2, Result.andThen_ok, q1, q2, Sem.run_ite, Sem.run_pure, beq_self_eq_true]
  rfl
theorem rule_same (r : R) (w : World) : (Op.equalIn 10000 42 (.agg (cR r)) (.agg (cR r))).run Tryd.prog w = .ok true w := by
  rw [show (10000 : Nat) = 9999 + 1 from rfl, run_equalIn_struct w 9999 _ _ _ ru_fields ru_stood]
  have hl := ru_lay
  have hn := ru_names
  generalize (Tryd.prog.fieldsOf 42).toList = l at hl hn ⊢
  rcases l with _ | ⟨f1, _ | ⟨f2, _ | ⟨f3, _ | ⟨f4, _ | ⟨f5, _ | ⟨f6, _ | ⟨f7, l⟩⟩⟩⟩⟩⟩⟩ <;> simp at hl hn
  obtain ⟨⟨t1, o1⟩, ⟨t2, o2⟩, ⟨t3, o3⟩, ⟨t4, o4⟩, ⟨t5, o5⟩, t6, o6⟩ := hl
  obtain ⟨n1, n2, n3, n4, n5, n6⟩ := hn
  have c1 : (part 4 (cR r) 0).run Tryd.prog w = .ok (.bool r.acc) w := by simp [go_sem]
  have c2 : (part 5 (cR r) 1).run Tryd.prog w = .ok (.int .u8 (r.pr : Int)) w := by simp [go_sem]
  have c3 : (part 37 (cR r) 2).run Tryd.prog w = .ok (.agg #[.int .u32 (r.sa : Int), .int .i64 r.sb]) w := by simp [go_sem]
  have c4 : (part 37 (cR r) 4).run Tryd.prog w = .ok (.agg #[.int .u32 (r.da : Int), .int .i64 r.db]) w := by simp [go_sem]
  have c5 : (part 40 (cR r) 6).run Tryd.prog w = .ok (.agg #[.int .u16 (r.sl : Int), .int .u16 (r.sh : Int)]) w := by simp [go_sem]
  have c6 : (part 40 (cR r) 8).run Tryd.prog w = .ok (.agg #[.int .u16 (r.dl : Int), .int .u16 (r.dh : Int)]) w := by simp [go_sem]
  have q1 : (Op.equalIn 9999 4 (.bool r.acc) (.bool r.acc)).run Tryd.prog w = .ok (r.acc == r.acc) w := run_equalIn_bool' w 9998 _ _ _ (by kernel_rfl)
  have q2 : (Op.equalIn 9999 5 (.int .u8 (r.pr : Int)) (.int .u8 (r.pr : Int))).run Tryd.prog w = .ok ((r.pr : Int) == (r.pr : Int)) w := run_equalIn_int w 9998 _ .u8 .u8 _ _ (by kernel_rfl)
  have q3 := fun a n => net_same 9997 a n w
  have q5 := fun a n => span_same 9997 a n w
  simp only [Op.eqFields, ne_eq, n1, n2, n3, n4, n5, n6, not_false_eq_true, if_true, t1, t2, t3, t4, t5, t6, o1, o2, o3, o4, o5, o6, Sem.run_bind, c1, c2, c3, c4, c5, c6, Result.andThen_ok, q1, q2, q3, q5, Sem.run_ite, Sem.run_pure, beq_self_eq_true]
  rfl

set_option maxRecDepth 100000 in
set_option maxHeartbeats 1000000 in
theorem same_true (a b : Value) (rs : List R) (w : World) (ha : Rds w w.heap.size a rs) (hb : Rds w w.heap.size b rs) :
    Calls Tryd.prog 6 #[a, b] w fun e w' => e = .returned (.bool true) ∧ ∃ q, w' = w.drewN q := by
  obtain ⟨A, ca, rfl, hca, hca2⟩ := ha.len
  obtain ⟨C, cb, rfl, hcb, hcb2⟩ := hb.len
  unfold maxLen at hca2 hcb2
  have HA := Lib.hid ha
  have HB := Lib.hid hb
  clear ha hb
  obtain ⟨L, hL⟩ : ∃ L, rs.length = L := ⟨_, rfl⟩
  have HL := Lib.hid hL
  rw [hL] at HA HB hca hcb ⊢
  clear hL
  go_enter Tryd.func6, Tryd.ntmps6
  go_wp2_with fail
  go_loopw [5] (fun i wr => ∃ k q : Nat, k ≤ L ∧ i = .int .i64 (k : Int) ∧ wr = w.drewN q) (fun i _ => L - (RowKit.intOf i).toNat)
  case atStart => exact ⟨0, 0, by omega, rfl, rfl⟩
  case round =>
    obtain ⟨k, q, hk, rfl, rfl⟩ := hrel
    by_cases hlt : k < L
    · obtain ⟨r, hx⟩ : ∃ r, rs[k]? = some r := ⟨_, List.getElem?_eq_getElem (by rw [HL.out]; exact hlt)⟩
      obtain ⟨g1, of1, cap1, hv1, hg1, hc1⟩ := HA.out.at_ hx
      obtain ⟨g2, of2, cap2, hv2, hg2, hc2⟩ := HB.out.at_ hx
      cases hv1
      cases hv2
      have a0 := hc1 0 _ rfl
      have a1 := hc1 1 _ rfl
      have a2 := hc1 2 _ rfl
      have a3 := hc1 3 _ rfl
      have a4 := hc1 4 _ rfl
      have a5 := hc1 5 _ rfl
      have a6 := hc1 6 _ rfl
      have a7 := hc1 7 _ rfl
      have a8 := hc1 8 _ rfl
      have a9 := hc1 9 _ rfl
      have b0 := hc2 0 _ rfl
      have b1 := hc2 1 _ rfl
      have b2 := hc2 2 _ rfl
      have b3 := hc2 3 _ rfl
      have b4 := hc2 4 _ rfl
      have b5 := hc2 5 _ rfl
      have b6 := hc2 6 _ rfl
      have b7 := hc2 7 _ rfl
      have b8 := hc2 8 _ rfl
      have b9 := hc2 9 _ rfl
      rw [← Nat.add_assoc] at a0 a1 a2 a3 a4 a5 a6 a7 a8 a9 b0 b1 b2 b3 b4 b5 b6 b7 b8 b9
      rw [Nat.add_zero] at a0 b0
      have hEQ := fun W => rule_same r W
      unfold cR at hEQ
      clear hc1 hc2 hx
      go_wp2_with fail
      go_quiet (fail)
      go_wp2_with fail
      go_roundw
      case rel => exact ⟨k + 1, _, by omega, by go_num, rfl⟩
      case measure => simp [RowKit.intOf]; omega
    · obtain rfl : k = L := by omega
      go_wp2_with fail
      go_ret
      exact ⟨rfl, q, rfl⟩
end Ru
end Go.Proofs.YtfbbkbjiaopnkaaDoor
