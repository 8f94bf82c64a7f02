/- Plain mathematics of layer 11, fifth part: lines put together word by word. Nothing of any program. -/
import Derived.Test.YtdppaijofpbdeaaDoorTxtG
set_option linter.unusedVariables false
set_option linter.unusedSimpArgs false
namespace Go.TxtM
open Go.Lib Go.AdrM

theorem take_snoc_at {α : Type} {l : List α} {k : Nat} {x : α} (h : l[k]? = some x) : l.take (k + 1) = l.take k ++ [x] := by
  obtain ⟨hlt, he⟩ := List.getElem?_eq_some_iff.1 h
  rw [List.take_succ_eq_append_getElem hlt, he]
theorem joinL_at {ls : List Line} {i n : Nat} {ws : List (List UInt8)} (h : ls[i]? = some (n, ws)) :
    joinL 1 (ls.take (i + 1)) = joinL 1 (ls.take i) ++ (List.replicate (n - lastN 1 (ls.take i)) 10 ++ join 32 ws) ∧ lastN 1 (ls.take (i + 1)) = n := by
  rw [take_snoc_at h]
  exact ⟨joinL_snoc n ws _ 1, lastN_snoc n ws _ 1⟩
theorem joinL_le : ∀ (ls : List Line) (m k : Nat), (joinL m (ls.take k)).length ≤ (joinL m ls).length := by
  intro ls
  induction ls with
  | nil => intro m k; rw [List.take_nil]; exact Nat.le_refl _
  | cons x ls ih =>
    intro m k
    obtain ⟨n, ws⟩ := x
    cases k with
    | zero => exact Nat.zero_le _
    | succ k =>
      have := ih n k
      show (_ ++ (_ ++ joinL n (ls.take k))).length ≤ (_ ++ (_ ++ joinL n ls)).length
      simp only [List.length_append]
      omega
theorem join_at {ws : List (List UInt8)} {k : Nat} {x : List UInt8} (h : ws[k]? = some x) : join 32 (ws.take (k + 1)) = (if k = 0 then [] else join 32 (ws.take k) ++ [32]) ++ x := by
  rw [take_snoc_at h, join_snoc]
  cases k with
  | zero => rw [List.take_zero, if_pos rfl, if_pos rfl]; rfl
  | succ k =>
    obtain ⟨hlt, he⟩ := List.getElem?_eq_some_iff.1 h
    rw [if_neg (fun e => by have := congrArg List.length e; rw [List.length_take, List.length_nil] at this; omega), if_neg (by omega)]
    simp
theorem join_mass_le : ∀ (ws : List (List UInt8)) (k : Nat), (join 32 (ws.take k)).length ≤ (join 32 ws).length := by
  intro ws
  induction ws with
  | nil => intro k; rw [List.take_nil]; exact Nat.le_refl _
  | cons w ws ih =>
    intro k
    cases k with
    | zero => exact Nat.zero_le _
    | succ k =>
      have := ih k
      cases ws with
      | nil => rw [List.take_succ_cons, List.take_nil]; exact Nat.le_refl _
      | cons v ws =>
        cases k with
        | zero => show (w : List UInt8).length ≤ (w ++ 32 :: join 32 (v :: ws)).length; simp
        | succ k =>
          show (w ++ 32 :: join 32 (v :: ws.take k)).length ≤ (w ++ 32 :: join 32 (v :: ws)).length
          have e : (v :: ws).take (k + 1) = v :: ws.take k := rfl
          rw [e] at this
          simp only [List.length_append, List.length_cons]
          omega
end Go.TxtM
