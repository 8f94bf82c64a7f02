/- Layer 24: a vector clock as an array of 64 numbers; with, exceeds. -/
import Derived.Test.YtalclmfnalmphaaChecked
import Derived.Test.YtalclmfnalmphaaRacN
import Derived.Test.YtalclmfnalmphaaRacW
import Derived.Test.YtalclmfnalmphaaComB
import Derived.Deep.MidRow
import Derived.Deep.WholeRow
set_option linter.unusedVariables false
set_option linter.unusedSimpArgs false
set_option maxRecDepth 100000
namespace Go.Proofs.Ytalclmfnalmphaa
open Go.ChangeShapes Go.WideShapes Go.ChangeAt Go.RowKit Go.Mtl Go.Lib
namespace Rc
open RcM
/-- The cells of a clock. -/
def ckL (c : Ck) : List Value := (List.range 64).map fun u => Value.int .i64 (c u)
def ckA (c : Ck) : Array Value := (ckL c).toArray
section
variable {c d : Ck} {u t : Nat}
theorem ckL_len (c : Ck) : (ckL c).length = 64 := by unfold ckL; simp
theorem ckA_size (c : Ck) : (ckA c).size = 64 := by unfold ckA; simp [ckL_len]
theorem ckL_get (h : u < 64) : (ckL c)[u]? = some (.int .i64 (c u)) := by unfold ckL; simp [h]
theorem ckA_get (h : u < 64) : (ckA c)[u]? = some (.int .i64 (c u)) := by unfold ckA; simpa using ckL_get h
theorem ckL_ext (h : ∀ u, u < 64 → c u = d u) : ckL c = ckL d := by
  unfold ckL
  refine List.map_congr_left fun u hu => by rw [h u (List.mem_range.1 hu)]
theorem ckA_ext (h : ∀ u, u < 64 → c u = d u) : ckA c = ckA d := by unfold ckA; rw [ckL_ext h]
theorem ckA_set (h : t < 64) (n : Int) : (ckA c).setIfInBounds t (.int .i64 n) = ckA (setN c t n) := by
  apply Array.ext_getElem?
  intro i
  rw [Array.getElem?_setIfInBounds]
  by_cases hi : i < 64
  · rw [ckA_get hi, ckA_get hi, ckA_size]
    by_cases e : t = i
    · subst e; rw [if_pos rfl, if_pos h]; unfold setN; rw [if_pos rfl]
    · rw [if_neg e]; unfold setN; rw [if_neg (fun h => e h.symm)]
  · rw [Array.getElem?_eq_none (by rw [ckA_size]; omega), Array.getElem?_eq_none (by rw [ckA_size]; omega), if_neg (by omega)]
theorem ckA_all (c : Ck) : (ckA c).all (·.oneCell') = true := by
  unfold ckA
  refine all_oneCell_toArray fun v hv => ?_
  unfold ckL at hv
  obtain ⟨u, _, rfl⟩ := List.mem_map.1 hv
  rfl
theorem ckA_list (c : Ck) : (ckA c).toList = ckL c := rfl
end
theorem ck_is : Try.prog.underlying 39 = some (.array 64 3) := by kernel_rfl
theorem ck_info : (Try.prog.info? 39).map (fun i => (i.zero, i.size)) = some (some (.agg (ckA fun _ => 0)), 64) := by kernel_rfl
theorem ck_size (c : Ck) : (Try.prog.info? 39).map (·.size) = some (ckA c).size := by rw [ckA_size]; exact (zero_of_info ck_info).2
theorem ck_zero (w : World) : (zeroValue 39).run Try.prog w = .ok (.agg (ckA fun _ => 0)) w := (zero_of_info ck_info).1 w
theorem ck_cells : (Try.prog.info? 3).map (·.size) = some 1 := by kernel_rfl
/-- One number out of a clock. -/
theorem ck_index (c : Ck) (k : Nat) (hk : k < 64) (w : World) : (Instr.index 39 (.agg (ckA c)) (.int .i64 (k : Int))).run Try.prog w = .ok (.int .i64 (c k)) w := by
  have h1 : (sizeOf 3).run Try.prog w = .ok 1 w := by
    have h := ck_cells
    cases hq : Try.prog.info? 3 with
    | none => rw [hq] at h; cases h
    | some i => rw [hq] at h; simp at h; simp [sizeOf, typeInfo, hq, h]
  have h2 : (part 3 (ckA c) k).run Try.prog w = .ok (.int .i64 (c k)) w := by
    have hl : (ckA c)[k]? = some (.int .i64 (c k)) := ckA_get hk
    simp [go_sem, part, hl]
  simp only [Instr.index, Sem.run_bind, asIntOf, Sem.run_pure, Result.andThen_ok, run_underlying ck_is]
  rw [if_pos (by omega)]
  simp only [Sem.run_bind, h1, Result.andThen_ok, Nat.mul_one, Int.toNat_natCast, h2]
end Rc
end Go.Proofs.Ytalclmfnalmphaa
