/- Layer 13: the law's few; an append of rules to a row of the call's own. -/
import Derived.Test.YtaniiofoaaekbaaMatA
import Derived.Maps.AppendAt
set_option linter.unusedVariables false
set_option linter.unusedSimpArgs false
namespace Go.Proofs.Ytaniiofoaaekbaa
open Go.ChangeShapes Go.WideShapes Go.ChangeAt Go.RowKit Go.Mtl Go.Lib
namespace Ma
open RulM (R)
open MatM (K few few_len)

theorem few_rds {w : World} {B : Nat} {A : Option Addr} {n c : Nat} {rs : List R} (h : Rds w B (.slice A n c) rs) : Rds w B (.slice A (few rs).length c) (few rs) := by
  have hn : rs.length = n := by obtain ⟨A', c', e, _⟩ := h; injection e with _ e2 _; exact e2.symm
  unfold few
  split
  · have := h.front 100 (by omega)
    rwa [show (rs.take 100).length = 100 by rw [List.length_take]; omega]
  · rw [hn]; exact h
theorem few_any (A : Option Addr) (n c : Nat) (rs : List R) (w : World) (hn : rs.length = n) (hr : Rds w w.heap.size (.slice A n c) rs) :
    Calls Try.prog 7 #[.slice A n c] w fun e w' => e = .returned (.slice A (few rs).length c) ∧ w = w' := by
  obtain ⟨A', c', e, hc, hm, h4⟩ := hr
  injection e with e1 e2 e3
  subst e1 e3
  clear e2
  unfold maxLen at hm
  by_cases h : 100 < n
  · obtain ⟨b, off, rfl, _, _⟩ := h4 (by omega)
    clear h4
    have HL : Hid ((few rs).length = 100) := by show _ = _; unfold few; rw [if_pos (by omega), List.length_take]; omega
    have hcn : n ≤ c := by omega
    clear hc hn
    go_enter Try.func7, Try.ntmps7
    go_wp2_with fail
    go_ret
    exact ⟨by rw [HL.out]; rfl, rfl⟩
  · have HL : Hid ((few rs).length = n) := by show _ = _; unfold few; rw [if_neg (by omega), hn]
    have hcn : n ≤ c := by omega
    clear hc hn h4
    go_enter Try.func7, Try.ntmps7
    go_wp2_with fail
    go_ret
    exact ⟨by rw [HL.out]; rfl, rfl⟩

theorem cellsRs_one (rs : List R) : ∀ u ∈ cellsRs rs, u.oneCell' = true := by
  induction rs with
  | nil => intro u hu; cases hu
  | cons r rs ih =>
    intro u hu
    rcases List.mem_append.1 hu with hu | hu
    · simp [cellsR] at hu
      rcases hu with rfl | rfl | rfl | rfl | rfl | rfl | rfl | rfl | rfl | rfl <;> rfl
    · exact ih u hu
abbrev zR : Array Value := #[.bool false, .int .u8 0, .int .u32 0, .int .i64 0, .int .u32 0, .int .i64 0, .int .u16 0, .int .u16 0, .int .u16 0, .int .u16 0]
theorem info_rule : (Try.prog.info? 32).map (fun i => (i.zero, i.size, i.bytes)) = some (some (.agg zR), 10, 48) := by kernel_rfl
theorem parts_rule : ∃ i, Try.prog.info? 32 = some i ∧ i.zero = some (.agg zR) ∧ i.size = 10 ∧ i.bytes = 48 := by
  have h := info_rule
  cases hi : Try.prog.info? 32 with
  | none => rw [hi] at h; cases h
  | some i => rw [hi] at h; simp at h; exact ⟨i, rfl, h.1, h.2.1, h.2.2⟩
/-- append run: to a row of the call's own, rules that came in. -/
theorem run_append_rds {w W0 : World} (ty : TypeId) (v : Value) (xs : List R) (hown : w.ownsRow W0.heap.size 32 10 v xs.length (cellsRs xs)) (hbel : Below W0.heap.size W0 w)
    (B : Nat) (A : Option Addr) (m c : Nat) (ys : List R) (hm : ys.length = m) (hr : Rds w B (.slice A m c) ys) (hlen : xs.length + m ≤ 100000) :
    ∃ v' w', (Builtin.append_ #[22, 22] ty #[v, .slice A m c]).run Try.prog w = .ok v' w' ∧ w'.ownsRow W0.heap.size 32 10 v' (xs ++ ys).length (cellsRs (xs ++ ys)) ∧ Below W0.heap.size W0 w' := by
  obtain ⟨i, hi, hz0, hz1, hz2⟩ := parts_rule
  obtain ⟨A', c', e, h2, h3, h4⟩ := hr
  injection e with e1 e2 e3
  subst e1 e3
  rw [List.length_append, cellsRs_append, hm]
  rcases A with _ | ad
  · have hm0 : m = 0 := by
      rcases Nat.eq_zero_or_pos m with h0 | h0
      · exact h0
      · obtain ⟨_, _, h, _⟩ := h4 (by omega)
        cases h
    subst hm0
    obtain rfl : ys = [] := List.eq_nil_of_length_eq_zero hm
    refine ⟨v, w, ?_, by simpa [cellsRs] using hown, hbel⟩
    rcases hown.2 with ⟨rfl, h0⟩ | ⟨g, cap, cur, rfl, _, _, hnc, _⟩
    · simp [Builtin.append_, run_underlying Try.underlying22, sizeOf, typeInfo, hi, Builtin.lenOf, Builtin.firstCells]
    · simp [Builtin.append_, run_underlying Try.underlying22, sizeOf, typeInfo, hi, Builtin.lenOf, Builtin.firstCells, hnc, storeCells]
  · obtain ⟨v', w', h0, h1, h2', _, _⟩ := run_append_own_at (P := Try.prog) w W0.heap.size 22 ty 32 i (.agg zR) 10 48 Try.underlying22 hi hz0 hz1 hz2 rfl (by omega) v xs.length (cellsRs xs) hown ad m c (cellsRs ys) (by rw [cellsRs_len, hm])
      (by
        intro j u hu
        have hj : j < (cellsRs ys).length := (List.getElem?_eq_some_iff.1 hu).1
        rw [cellsRs_len] at hj
        obtain ⟨b, off, h, _, hc⟩ := h4 (by omega)
        injection h with h
        subst h
        rw [add_plain']
        exact hc j u hu)
      (cellsRs_one ys) (by unfold maxLen; omega) (by omega) hbel.size
    exact ⟨v', w', h0, h1, hbel.grown h2' hbel.size fun k hk => (hown.lt k hk).1⟩
/-- .. at a step of a region that draws its order. -/
theorem step_append_rds {w : World} {o : Oper} {a : Act} {Kt : Act → World → Prop} {Q : Exit → Act → World → Prop} {ops : Array Oper} {E : Prop} (W0 : World) (hgd : o.guard = none) (s x : Operand)
    (ho : o.op = .call { callee := .builtin .append, args := #[s, x], argTypes := #[22, 22] })
    (v : Value) (xs : List R) (hs : a.eval s = v) (hown : w.ownsRow W0.heap.size 32 10 v xs.length (cellsRs xs)) (hbel : Below W0.heap.size W0 w)
    (B : Nat) (A : Option Addr) (m c : Nat) (ys : List R) (hx : a.eval x = .slice A m c) (hm : ys.length = m) (hr : Rds w B (.slice A m c) ys) (hlen : xs.length + m ≤ 100000)
    (h : ∀ v' w', Hid (w'.ownsRow W0.heap.size 32 10 v' (xs ++ ys).length (cellsRs (xs ++ ys))) → Hid (Below W0.heap.size W0 w') → Kt (a.put o.dst v') w') :
    if Region.wanted o (yielded ops a.tmps) = true then Oper.wp Try.prog o a w Kt Q else E := by
  have hw : Region.wanted o (yielded ops a.tmps) = true := by simp [Region.wanted, hgd]
  rw [if_pos hw]
  obtain ⟨v', w', h0, h1, h2⟩ := run_append_rds o.type v xs hown hbel B A m c ys hm hr hlen
  unfold Oper.wp execOp
  simp only [ho, resolve, invoke, builtin, Sem.run_bind, Sem.run_pure, Result.andThen_ok, List.map_toArray, List.map_cons, List.map_nil, hs, hx, h0]
  exact h _ _ h1 h2
end Ma
end Go.Proofs.Ytaniiofoaaekbaa
