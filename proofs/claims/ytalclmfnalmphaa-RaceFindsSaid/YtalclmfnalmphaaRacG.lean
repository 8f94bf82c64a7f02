/- Layer 24: a log in its cells; what Find starts with. -/
import Derived.Test.YtalclmfnalmphaaRacF
import Derived.Test.YtalclmfnalmphaaComP
set_option linter.unusedVariables false
set_option linter.unusedSimpArgs false
set_option maxRecDepth 100000
namespace Go.Proofs.Ytalclmfnalmphaa
open Go.ChangeShapes Go.WideShapes Go.ChangeAt Go.RowKit Go.Mtl Go.Lib
namespace Rc
open RcM
def avs (l : List A) : List Value := l.flatMap fun x => [.int .i64 x.t, .int .i64 x.k, .int .i64 x.p]
/-- A slice that reads as these accesses. -/
abbrev Lg (w : World) (B : Nat) (v : Value) (l : List A) : Prop := Rd w B 3 l.length v (avs l)
/-- .. by their places. -/
def fn (l : List A) : Nat → A := fun i => l.getD i ⟨0, 0, 0⟩
theorem fn_at {l : List A} {i : Nat} {x : A} (h : l[i]? = some x) : fn l i = x := by unfold fn; simp [List.getD, h]
theorem avs_len (l : List A) : (avs l).length = l.length * 3 := by
  induction l with
  | nil => rfl
  | cons x l ih => unfold avs at ih ⊢; rw [List.flatMap_cons, List.length_append, ih, List.length_cons]; simp; omega
theorem avs_at (l : List A) : ∀ (i : Nat) (x : A), l[i]? = some x → (avs l)[i * 3]? = some (.int .i64 x.t) ∧ (avs l)[i * 3 + 1]? = some (.int .i64 x.k) ∧ (avs l)[i * 3 + 2]? = some (.int .i64 x.p) := by
  induction l with
  | nil => intro i x h; simp at h
  | cons a l ih =>
    intro i x h
    have e : avs (a :: l) = [.int .i64 a.t, .int .i64 a.k, .int .i64 a.p] ++ avs l := by unfold avs; rw [List.flatMap_cons]
    cases i with
    | zero =>
      obtain rfl := Option.some.inj h
      rw [e]
      exact ⟨rfl, rfl, rfl⟩
    | succ i =>
      obtain ⟨h1, h2, h3⟩ := ih i x h
      rw [e]
      have g : ∀ j, ([.int .i64 a.t, .int .i64 a.k, .int .i64 a.p] ++ avs l)[(i + 1) * 3 + j]? = (avs l)[i * 3 + j]? := fun j => by
        rw [List.getElem?_append_right (by simp; omega)]
        congr 1
        simp; omega
      exact ⟨(g 0).trans h1, (g 1).trans h2, (g 2).trans h3⟩
theorem avs_one (l : List A) : ∀ u ∈ avs l, u.oneCell' = true := by
  intro u hu
  unfold avs at hu
  obtain ⟨a, _, h⟩ := List.mem_flatMap.1 hu
  simp at h
  rcases h with rfl | rfl | rfl <;> rfl
/-- An access of a log, in its cells. -/
theorem Lg.at_ {w : World} {B : Nat} {A0 : Option Addr} {n c : Nat} {l : List A} (h : Rd w B 3 n (.slice A0 n c) (avs l)) (hn : l.length = n) {i : Nat} (hi : i < n) :
    ∃ (x : A) (b off : Nat), l[i]? = some x ∧ A0 = some ⟨b, off, none⟩ ∧ b < B ∧ w.cell? ⟨b, off + i * 3, none⟩ = some (.int .i64 x.t) ∧ w.cell? ⟨b, off + i * 3 + 1, none⟩ = some (.int .i64 x.k) ∧ w.cell? ⟨b, off + i * 3 + 2, none⟩ = some (.int .i64 x.p) := by
  obtain ⟨x, hx⟩ : ∃ x, l[i]? = some x := ⟨_, List.getElem?_eq_getElem (by omega)⟩
  obtain ⟨b, off, c', e, h1, h2, hb, hc⟩ := Rd.at_ h (by omega)
  injection e with e1 _ _
  obtain ⟨a1, a2, a3⟩ := avs_at l i x hx
  exact ⟨x, b, off, hx, e1, hb, hc _ _ a1, hc _ _ a2, hc _ _ a3⟩
/-- The block that Find makes. -/
def pastA (a b c d : Nat) : Array Value := Array.replicate 4096 (.int .i64 0) ++ #[.map (some a), .map (some b), .map (some c), .map (some d)]
theorem past_built (a b c d : Nat) : Try.prog.built 42 [(1, .map (some a)), (2, .map (some b)), (3, .map (some c)), (4, .map (some d))] = some (pastA a b c d) := by kernel_rfl
end Rc
end Go.Proofs.Ytalclmfnalmphaa
