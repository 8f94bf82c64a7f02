/- Layer 17: the contracts of the reference's Open and Next. -/
import Derived.Test.YtmbdhcfhackgfaaFsmA
import Derived.Test.YtmbdhcfhackgfaaTraD
set_option linter.unusedVariables false
set_option linter.unusedSimpArgs false
namespace Go.Proofs.Ytmbdhcfhackgfaa
open Go.ChangeShapes Go.WideShapes Go.ChangeAt Go.RowKit Go.Mtl Go.Lib
namespace Fs
open TraM (nextN nextB openN openB)

set_option maxHeartbeats 1000000 in
theorem refOpen_any (a b c d e f h : Int) (hf : 0 ≤ f ∧ f ≤ 255) (W : World) :
    Calls Try.prog 7 #[.agg (pkc a b c d e f h)] W fun x w' => x = .returned (.tuple #[.int .i64 (opN a f h), .bool (opB a f h)]) ∧ Below W.heap.size W w' := by
  have HX := Lib.hid (Blk.box W (pkc a b c d e f h) 25)
  have HB := Lib.hid (below_pk W (.cells (pkc a b c d e f h) 25))
  obtain ⟨x0, x1, x2, x3, x4, x5, x6⟩ := pk_cells HX.out
  unfold opN opB
  by_cases h6 : a = 6
  · subst h6
    obtain ⟨n, rfl⟩ : ∃ n : Nat, f = (n : Int) := ⟨f.toNat, by omega⟩
    have HO := Lib.hid (Tr.refOpen_any n (by omega))
    rw [if_pos rfl, if_pos rfl, Int.toNat_natCast]
    clear hf
    go_enter Try.func7, Try.ntmps7
    go_wp2_with fail
    go_at_call 15
    refine (HO.out _).mono ?_
    rintro e w' ⟨rfl, rfl⟩
    go_wp2_with fail
    go_ret2
    exact ⟨rfl, HB.out⟩
  clear hf
  rw [if_neg h6, if_neg h6]
  have d6 : (a == 6) = false := by simpa using h6
  by_cases h17 : a = 17
  · subst h17
    rw [if_pos (.inl rfl), decide_eq_true (.inl rfl)]
    clear h6 d6
    go_enter Try.func7, Try.ntmps7
    go_wp2_with fail
    go_ret2
    exact ⟨rfl, HB.out⟩
  have d17 : (a == 17) = false := by simpa using h17
  by_cases h1 : a = 1
  · subst h1
    by_cases h8 : h = 8
    · subst h8
      rw [if_pos (.inr ⟨rfl, rfl⟩), decide_eq_true (.inr ⟨rfl, rfl⟩)]
      clear h6 d6 h17 d17
      go_enter Try.func7, Try.ntmps7
      go_wp2_with fail
      go_ret2
      exact ⟨rfl, HB.out⟩
    · have d8 : (h == 8) = false := by simpa using h8
      rw [if_neg (by omega), decide_eq_false (by omega)]
      clear h6 d6 h17 d17 h8
      go_enter Try.func7, Try.ntmps7
      go_wp2_with fail
      go_ret2
      exact ⟨rfl, HB.out⟩
  have d1 : (a == 1) = false := by simpa using h1
  rw [if_neg (by omega), decide_eq_false (by omega)]
  clear h6 h17 h1
  go_enter Try.func7, Try.ntmps7
  go_wp2_with fail
  go_ret2
  exact ⟨rfl, HB.out⟩

set_option maxHeartbeats 1000000 in
theorem refNext_any (s : Int) (r : Bool) (a b c d e f h : Int) (hs : -9223372036854775808 ≤ s ∧ s ≤ 9223372036854775807) (hf : 0 ≤ f ∧ f ≤ 255) (W : World) :
    Calls Try.prog 9 #[.int .i64 s, .bool r, .agg (pkc a b c d e f h)] W fun x w' => x = .returned (.tuple #[.int .i64 (neN s r a f h), .bool (neB s r a f h)]) ∧ Below W.heap.size W w' := by
  have HX := Lib.hid (Blk.box W (pkc a b c d e f h) 25)
  have HB := Lib.hid (below_pk W (.cells (pkc a b c d e f h) 25))
  obtain ⟨x0, x1, x2, x3, x4, x5, x6⟩ := pk_cells HX.out
  unfold neN neB
  by_cases h6 : a = 6
  · subst h6
    obtain ⟨n, rfl⟩ : ∃ n : Nat, f = (n : Int) := ⟨f.toNat, by omega⟩
    have HO := Lib.hid (Tr.refNext_any s r n hs (by omega))
    rw [if_pos rfl, if_pos rfl, Int.toNat_natCast]
    clear hf hs
    go_enter Try.func9, Try.ntmps9
    go_wp2_with fail
    go_at_call 18
    refine (HO.out _).mono ?_
    rintro e w' ⟨rfl, rfl⟩
    go_wp2_with fail
    go_ret2
    exact ⟨rfl, HB.out⟩
  clear hf hs
  rw [if_neg h6, if_neg h6]
  have d6 : (a == 6) = false := by simpa using h6
  unfold talkN talkB
  by_cases hst : s = 8 ∨ s = 9
  · rw [if_pos hst, decide_eq_true hst]
    by_cases h17 : a = 17
    · subst h17
      have hy : Fits 17 h r := .inl rfl
      rw [if_pos hy, if_pos hy]
      clear h6 d6 hy
      rcases hst with rfl | rfl <;> cases r
      all_goals
        go_enter Try.func9, Try.ntmps9
        go_wp2_with fail
        go_ret2
        exact ⟨rfl, HB.out⟩
    have d17 : (a == 17) = false := by simpa using h17
    have e17 : (a != 17) = true := by simpa using h17
    by_cases h1 : a = 1
    · subst h1
      clear h6 d6 h17 d17
      by_cases h8 : h = kd r
      · subst h8
        have hy : Fits 1 (kd r) r := .inr ⟨rfl, rfl⟩
        rw [if_pos hy, if_pos hy]
        clear hy
        rcases hst with rfl | rfl <;> cases r
        all_goals
          unfold kd at *
          go_enter Try.func9, Try.ntmps9
          go_wp2_with fail
          go_ret2
          exact ⟨rfl, HB.out⟩
      · have hy : ¬ Fits 1 h r := by unfold Fits; omega
        rw [if_neg hy, if_neg hy]
        clear hy
        have d8 : (h != kd r) = true := by simpa using h8
        clear h8
        rcases hst with rfl | rfl <;> cases r
        all_goals
          unfold kd at d8
          go_enter Try.func9, Try.ntmps9
          go_wp2_with fail
          go_ret2
          exact ⟨rfl, HB.out⟩
    have d1 : (a == 1) = false := by simpa using h1
    have e1 : (a != 1) = true := by simpa using h1
    have hn : ¬ Fits a h r := by unfold Fits; omega
    rw [if_neg hn, if_neg hn]
    clear h6 h17 h1 hn
    rcases hst with rfl | rfl <;> cases r
    all_goals
      go_enter Try.func9, Try.ntmps9
      go_wp2_with fail
      go_ret2
      exact ⟨rfl, HB.out⟩
  · rw [if_neg hst, decide_eq_false hst, ite_self, ite_self]
    have d8 : (s != 8) = true := by simp; omega
    have d9 : (s != 9) = true := by simp; omega
    clear h6 hst
    go_enter Try.func9, Try.ntmps9
    go_wp2_with fail
    go_ret2
    exact ⟨rfl, HB.out⟩
end Fs
end Go.Proofs.Ytmbdhcfhackgfaa
