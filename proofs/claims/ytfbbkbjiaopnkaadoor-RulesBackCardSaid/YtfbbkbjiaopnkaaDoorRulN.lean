/- Plain mathematics of layer 12, second part: the words of a text's lines are short and bear no space. Nothing of any program. -/
import Derived.Test.YtfbbkbjiaopnkaaDoorRulM
set_option linter.unusedVariables false
namespace Go.RulM
open Go.Lib Go.AdrM
open Go.TxtM (Line errOf lineOf linesOf joinL)

theorem join_mem : ∀ (ws : List (List UInt8)) (x : List UInt8), x ∈ ws → x.length ≤ (join 32 ws).length := by
  intro ws
  induction ws with
  | nil => intro x h; cases h
  | cons w ws ih =>
    intro x h
    cases ws with
    | nil => rw [List.mem_singleton.1 h]; exact Nat.le_refl _
    | cons v ws =>
      show _ ≤ (w ++ 32 :: join 32 (v :: ws)).length
      rw [List.length_append, List.length_cons]
      rcases List.mem_cons.1 h with rfl | h
      · omega
      · have := ih x h; omega
theorem joinL_mem : ∀ (ls : List Line) (m n : Nat) (ws : List (List UInt8)) (x : List UInt8), (n, ws) ∈ ls → x ∈ ws → x.length ≤ (joinL m ls).length := by
  intro ls
  induction ls with
  | nil => intro m n ws x h; cases h
  | cons q ls ih =>
    intro m n ws x h hx
    obtain ⟨n', ws'⟩ := q
    show _ ≤ (List.replicate (n' - m) 10 ++ (join 32 ws' ++ joinL n' ls)).length
    rw [List.length_append, List.length_append]
    rcases List.mem_cons.1 h with h | h
    · cases h
      have := join_mem ws x hx
      omega
    · have := ih n' n ws x h hx; omega
theorem good_mem : ∀ (ls : List Line) (m n : Nat) (ws : List (List UInt8)), TxtM.Good m ls → (n, ws) ∈ ls → ∀ x ∈ ws, TxtM.Clean x := by
  intro ls
  induction ls with
  | nil => intro m n ws _ h; cases h
  | cons q ls ih =>
    intro m n ws hg h
    obtain ⟨n', ws'⟩ := q
    rcases List.mem_cons.1 h with h | h
    · cases h; exact hg.2.2.1
    · exact ih _ n ws hg.2.2.2 h
theorem good_num : ∀ (ls : List Line) (m n : Nat) (ws : List (List UInt8)), TxtM.Good m ls → (n, ws) ∈ ls → m ≤ n := by
  intro ls
  induction ls with
  | nil => intro m n ws _ h; cases h
  | cons q ls ih =>
    intro m n ws hg h
    obtain ⟨n', ws'⟩ := q
    rcases List.mem_cons.1 h with h | h
    · cases h; exact hg.1
    · have := ih _ n ws hg.2.2.2 h; have := hg.1; omega
/-- Of a text without errors: each word of its lines is short, and bears no space. -/
theorem words_of {l : List UInt8} (h : errOf l = 0) {n : Nat} {ws : List (List UInt8)} (hm : (n, ws) ∈ linesOf l) : ∀ x ∈ ws, x.length ≤ 4096 ∧ (32 : UInt8) ∉ x := by
  obtain ⟨h1, h2, _, _⟩ := TxtM.again h
  obtain ⟨h3, _⟩ := TxtM.errOf_zero h
  intro x hx
  refine ⟨?_, ?_⟩
  · have := joinL_mem (linesOf l) 1 n ws x hm hx; omega
  · exact ink_no x (good_mem _ _ n ws h1 hm x hx).2
end Go.RulM
