/- Layer 10: endpoints and keys compared whole. -/
import Derived.Test.YtabmdkjkdgipbaaKeyA
import Derived.Laws.StructEq
import Derived.ChangeKeysEq
import Derived.KernelRfl
set_option linter.unusedVariables false
set_option linter.unusedSimpArgs false
namespace Go.Proofs.Ytabmdkjkdgipbaa
open Go.ChangeShapes Go.WideShapes Go.ChangeAt Go.RowKit Go.Mtl
namespace Ky

theorem ep_is : Try.prog.underlying 42 = some (.array 2 22) := by kernel_rfl
theorem ky_fields : Try.prog.underlying 29 = some (.struct (Try.prog.fieldsOf 29)) := by kernel_rfl
theorem ky_stood : Try.prog.stoodInHeld 29 = false := by kernel_rfl
theorem ky_lay : (Try.prog.fieldsOf 29).toList.map (fun f => (f.type, f.offset)) = [(26, 0), (27, 2), (5, 4)] := by kernel_rfl
theorem ky_names : (Try.prog.fieldsOf 29).toList.all (fun f => f.name != "_") = true := by kernel_rfl
theorem u32_cells : Try.prog.cellsOf 22 = 1 := by kernel_rfl
theorem u16_cells : Try.prog.cellsOf 23 = 1 := by kernel_rfl
theorem u32_info : (Try.prog.info? 22).isSome = true := by kernel_rfl
theorem u16_info : (Try.prog.info? 23).isSome = true := by kernel_rfl
theorem ar4_is : Try.prog.underlying 26 = some (.array 2 22) := by kernel_rfl
theorem ar2_is : Try.prog.underlying 27 = some (.array 2 23) := by kernel_rfl

theorem pair4 (d : Nat) (t : TypeId) (ht : Try.prog.underlying t = some (.array 2 22)) (a p b q : Int) (w : World) : (Op.equalIn (d + 2) t (.agg (epc a p)) (.agg (epc b q))).run Try.prog w = .ok (decide (a = b ∧ p = q)) w := by
  obtain ⟨i4, h4⟩ := Option.isSome_iff_exists.1 u32_info
  rw [run_equalIn_array w (d + 1) _ _ ht h4]
  by_cases h1 : a = b
  · by_cases h2 : p = q
    · simp [u32_cells, Op.eqItems, List.range, List.range.loop, go_sem, h1, h2]
    · simp [u32_cells, Op.eqItems, List.range, List.range.loop, go_sem, h1, h2]
  · simp [u32_cells, Op.eqItems, List.range, List.range.loop, go_sem, h1]
theorem pair2 (d : Nat) (a p b q : Int) (w : World) : (Op.equalIn (d + 2) 27 (.agg #[.int .u16 a, .int .u16 p]) (.agg #[.int .u16 b, .int .u16 q])).run Try.prog w = .ok (decide (a = b ∧ p = q)) w := by
  obtain ⟨i4, h4⟩ := Option.isSome_iff_exists.1 u16_info
  rw [run_equalIn_array w (d + 1) _ _ ar2_is h4]
  by_cases h1 : a = b
  · by_cases h2 : p = q
    · simp [u16_cells, Op.eqItems, List.range, List.range.loop, go_sem, h1, h2]
    · simp [u16_cells, Op.eqItems, List.range, List.range.loop, go_sem, h1, h2]
  · simp [u16_cells, Op.eqItems, List.range, List.range.loop, go_sem, h1]
theorem ep_eq (a p b q : Int) (w : World) : (Op.equalIn 10000 42 (.agg (epc a p)) (.agg (epc b q))).run Try.prog w = .ok (decide (a = b ∧ p = q)) w := pair4 9998 _ ep_is a p b q w
theorem ky_eq (a b p q r a2 b2 p2 q2 r2 : Int) (w : World) : (Op.equalIn 10000 29 (.agg (kyc a b p q r)) (.agg (kyc a2 b2 p2 q2 r2))).run Try.prog w = .ok (decide (a = a2 ∧ b = b2 ∧ p = p2 ∧ q = q2 ∧ r = r2)) w := by
  rw [show (10000 : Nat) = 9999 + 1 from rfl, run_equalIn_struct w 9999 _ _ _ ky_fields ky_stood]
  have hl := ky_lay
  have hn := ky_names
  generalize (Try.prog.fieldsOf 29).toList = l at hl hn ⊢
  rcases l with _ | ⟨f1, _ | ⟨f2, _ | ⟨f3, _ | ⟨f4, l⟩⟩⟩⟩ <;> simp at hl hn
  obtain ⟨⟨t1, o1⟩, ⟨t2, o2⟩, t3, o3⟩ := hl
  obtain ⟨n1, n2, n3⟩ := hn
  have c1 : ∀ (a b p q r : Int), (part 26 (kyc a b p q r) 0).run Try.prog w = .ok (.agg (epc a b)) w := fun a b p q r => by simp [go_sem]
  have c2 : ∀ (a b p q r : Int), (part 27 (kyc a b p q r) 2).run Try.prog w = .ok (.agg #[.int .u16 p, .int .u16 q]) w := fun a b p q r => by simp [go_sem]
  have c3 : ∀ (a b p q r : Int), (part 5 (kyc a b p q r) 4).run Try.prog w = .ok (.int .u8 r) w := fun a b p q r => by simp [go_sem]
  have q1 : (Op.equalIn 9999 26 (.agg (epc a b)) (.agg (epc a2 b2))).run Try.prog w = .ok (decide (a = a2 ∧ b = b2)) w := pair4 9997 _ ar4_is a b a2 b2 w
  have q2' : (Op.equalIn 9999 27 (.agg #[.int .u16 p, .int .u16 q]) (.agg #[.int .u16 p2, .int .u16 q2])).run Try.prog w = .ok (decide (p = p2 ∧ q = q2)) w := pair2 9997 p q p2 q2 w
  have q3 : (Op.equalIn 9999 5 (.int .u8 r) (.int .u8 r2)).run Try.prog w = .ok (r == r2) w := run_equalIn_int w 9998 _ .u8 .u8 r r2 (by kernel_rfl)
  simp only [Op.eqFields, ne_eq, n1, n2, n3, not_false_eq_true, if_true, t1, t2, t3, o1, o2, o3, Sem.run_bind, c1, c2, c3, Result.andThen_ok, q1, q2', q3, Sem.run_ite, Sem.run_pure]
  by_cases h1 : a = a2 ∧ b = b2
  · by_cases h2 : p = p2 ∧ q = q2
    · by_cases h3 : r = r2
      · simp [h1, h2, h3]
      · simp [h1, h2, h3]
    · have h4 : ¬ (a = a2 ∧ b = b2 ∧ p = p2 ∧ q = q2 ∧ r = r2) := fun h => h2 ⟨h.2.2.1, h.2.2.2.1⟩
      rw [decide_eq_true h1, decide_eq_false h2, decide_eq_false h4]; simp
  · have h4 : ¬ (a = a2 ∧ b = b2 ∧ p = p2 ∧ q = q2 ∧ r = r2) := fun h => h1 ⟨h.1, h.2.1⟩
    rw [decide_eq_false h1, decide_eq_false h4]; simp
theorem ep_same (a p : Int) (w : World) : (Op.equalIn 10000 42 (.agg #[.int .u32 a, .int .u32 p]) (.agg #[.int .u32 a, .int .u32 p])).run Try.prog w = .ok true w := (ep_eq a p a p w).trans (by simp)
theorem ep_diff (a p b q : Int) (h : ¬ (a = b ∧ p = q)) (w : World) : (Op.equalIn 10000 42 (.agg #[.int .u32 a, .int .u32 p]) (.agg #[.int .u32 b, .int .u32 q])).run Try.prog w = .ok false w := (ep_eq a p b q w).trans (by rw [decide_eq_false h])
end Ky
end Go.Proofs.Ytabmdkjkdgipbaa
