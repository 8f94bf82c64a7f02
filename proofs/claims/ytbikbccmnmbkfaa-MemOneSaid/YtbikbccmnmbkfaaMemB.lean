/- Layer 19: the contracts of the program's record, hasWord, hasLock. -/
import Derived.Test.YtbikbccmnmbkfaaMemA
import Derived.Test.YtbikbccmnmbkfaaRows
set_option linter.unusedVariables false
set_option linter.unusedSimpArgs false
set_option maxRecDepth 100000
namespace Go.Proofs.Ytbikbccmnmbkfaa
open Go.ChangeShapes Go.WideShapes Go.ChangeAt Go.RowKit Go.Mtl Go.Lib
namespace Me
open MemM

abbrev T1 : Mty := ⟨59, 27, 3, 51, .i64⟩
abbrev ptr (B : Nat) : Value := .pointer (some ⟨B, 0, none⟩)
theorem info_acc : (Try.prog.info? 51).map (fun i => (i.zero, i.size, i.bytes)) = some (some (.agg #[.int .i64 0, .int .i64 0, .int .i64 0]), 3, 24) := by kernel_rfl
theorem info_word : (Try.prog.info? 27).map (fun i => (i.zero, i.size, i.bytes)) = some (some (.int .u64 0), 1, 8) := by kernel_rfl

section
variable {w : World} {O : Nat → Prop} {B : Nat} {vw vh vl : Value} {ws hs : List Int} {ls : List Ac}
set_option maxHeartbeats 1000000 in
theorem record_any (H : Mm T1 w O B vw vh vl ws hs ls) (t k n sp p : Int) (hn : 0 ≤ n ∧ n ≤ 1099511627776) (hsp : 0 ≤ sp ∧ sp ≤ 2) (hp : p = 3 * n + sp) (hl : ls.length ≤ 1000000000000) :
    Calls Try.prog 33 #[ptr B, .int .i64 t, .int .i64 k, .int .i64 n, .int .i64 sp] w fun e w' => ∃ O' v, e = .returned (.tuple #[]) ∧ Mm T1 w' O' B vw vh v ws hs (ls ++ [⟨t, k, p⟩]) ∧ Only O w w' ∧ ∀ j, O' j → O j ∨ w.heap.size ≤ j := by
  subst hp
  obtain ⟨n0, n1⟩ := hn
  obtain ⟨s0, s1⟩ := hsp
  obtain ⟨Al, cl, rfl, hc1, hc2⟩ := H.len2
  have c2 := H.blk.cell 2 _ rfl
  have HH := Lib.hid H
  clear H
  go_enter Try.func33, Try.ntmps33
  go_wp2_with (at_builtin; refine wpList_push (ls.length + 1) rfl _ _ 42 51 rfl Try.underlying42 (.agg #[.int .i64 0, .int .i64 0, .int .i64 0]) 3 24 info_acc rfl (by omega) (by omega) _ _ _ rfl HH.out.lr [.int .i64 t, .int .i64 k, .int .i64 (3 * n + sp)] rfl (by simp [Value.oneCell']) rfl rfl hl ?_; intro A' c' w1 h1 h2 h3; have HB1 := HH.out.grownL h2.out; clear c2; have c2 := HB1.cell 2 _ rfl; have f2 := HB1.frozen 2; clear HB1)
  go_end0
  have HP := HH.out.push (a := ⟨t, k, 3 * n + sp⟩) h1.out h2.out h3.out
  exact ⟨_, _, rfl, HP.1, HP.2, fun j hj => hj.imp id (fun h => h.1)⟩
theorem hasWord_nil (i : Int) (w : World) : Calls Try.prog 32 #[.pointer none, .int .i64 i] w fun e w' => e = .returned (.bool false) ∧ w = w' := by
  go_enter Try.func32, Try.ntmps32
  go_wp2_with fail
  go_ret
  exact ⟨rfl, rfl⟩
theorem hasLock_nil (i : Int) (w : World) : Calls Try.prog 35 #[.pointer none, .int .i64 i] w fun e w' => e = .returned (.bool false) ∧ w = w' := by
  go_enter Try.func35, Try.ntmps35
  go_wp2_with fail
  go_ret
  exact ⟨rfl, rfl⟩
theorem hasWord_any (H : Mm T1 w O B vw vh vl ws hs ls) (i : Int) {b : Bool} (hb : has ws.length i = b) :
    Calls Try.prog 32 #[ptr B, .int .i64 i] w fun e w' => e = .returned (.bool b) ∧ w = w' := by
  obtain ⟨A, c, rfl, hc1, hc2⟩ := H.len0
  have c0 := H.blk.cell 0 _ rfl
  clear H
  cases b with
  | true =>
    obtain ⟨j, rfl, hj⟩ := has_yes hb
    clear hb
    go_enter Try.func32, Try.ntmps32
    go_wp2_with fail
    go_ret
    exact ⟨rfl, rfl⟩
  | false =>
    have h := has_no hb
    clear hb
    by_cases h0 : i < 0
    · have d0 : decide (i ≥ 0) = false := by simpa using h0
      clear h
      go_enter Try.func32, Try.ntmps32
      go_wp2_with fail
      go_ret
      exact ⟨rfl, rfl⟩
    · obtain ⟨j, rfl⟩ : ∃ j : Nat, i = (j : Int) := ⟨i.toNat, by omega⟩
      have hj : ¬ j < ws.length := by omega
      clear h h0
      go_enter Try.func32, Try.ntmps32
      go_wp2_with fail
      go_ret
      exact ⟨rfl, rfl⟩
theorem hasLock_any (H : Mm T1 w O B vw vh vl ws hs ls) (i : Int) {b : Bool} (hb : has hs.length i = b) :
    Calls Try.prog 35 #[ptr B, .int .i64 i] w fun e w' => e = .returned (.bool b) ∧ w = w' := by
  obtain ⟨A, c, rfl, hc1, hc2⟩ := H.len1
  have c0 := H.blk.cell 1 _ rfl
  clear H
  cases b with
  | true =>
    obtain ⟨j, rfl, hj⟩ := has_yes hb
    clear hb
    go_enter Try.func35, Try.ntmps35
    go_wp2_with fail
    go_ret
    exact ⟨rfl, rfl⟩
  | false =>
    have h := has_no hb
    clear hb
    by_cases h0 : i < 0
    · have d0 : decide (i ≥ 0) = false := by simpa using h0
      clear h
      go_enter Try.func35, Try.ntmps35
      go_wp2_with fail
      go_ret
      exact ⟨rfl, rfl⟩
    · obtain ⟨j, rfl⟩ : ∃ j : Nat, i = (j : Int) := ⟨i.toNat, by omega⟩
      have hj : ¬ j < hs.length := by omega
      clear h h0
      go_enter Try.func35, Try.ntmps35
      go_wp2_with fail
      go_ret
      exact ⟨rfl, rfl⟩
end
end Me
end Go.Proofs.Ytbikbccmnmbkfaa
