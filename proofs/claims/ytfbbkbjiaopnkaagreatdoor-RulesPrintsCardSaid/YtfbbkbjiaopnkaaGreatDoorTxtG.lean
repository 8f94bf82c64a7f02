/- Plain mathematics of layer 11, fourth part: what the reference's reading holds from byte to byte. Nothing of any program. -/
import Derived.Test.YtfbbkbjiaopnkaaGreatDoorTxtM
set_option linter.unusedVariables false
set_option linter.unusedSimpArgs false
namespace Go.TxtM
open Go.Lib

/-- Ahead of byte k: what is known of the lines, the words, the word that is read, and where it began. -/
structure PS (l : List UInt8) (k n : Nat) (f : Int) (off : Bool) (o : List Line) (ws : List (List UInt8)) (cur : List UInt8) : Prop where
  fut : o ++ lex n ws cur off (l.drop k) = lex 1 [] [] false l
  at_ : (cur = [] ∧ f = -1) ∨ (cur ≠ [] ∧ off = false ∧ ∃ f0 : Nat, f = (f0 : Int) ∧ f0 < k ∧ cur = (l.take k).drop f0)
  hk : k ≤ l.length
  hn : n ≤ k + 1
  ho : o.length ≤ k
  hw : ws.length ≤ k
theorem PS.start (l : List UInt8) : PS l 0 1 (-1) false [] [] [] := ⟨rfl, .inl ⟨rfl, rfl⟩, by omega, by omega, Nat.le_refl _, Nat.le_refl _⟩
section
variable {l : List UInt8} {k n : Nat} {f : Int} {off : Bool} {o : List Line} {ws : List (List UInt8)} {cur : List UInt8} {b : UInt8}
theorem drop_at (h : l[k]? = some b) : l.drop k = b :: l.drop (k + 1) := by
  obtain ⟨hlt, he⟩ := List.getElem?_eq_some_iff.1 h
  rw [List.drop_eq_getElem_cons hlt, he]
theorem lt_at (h : l[k]? = some b) : k < l.length := (List.getElem?_eq_some_iff.1 h).1
theorem emit_len (n : Nat) (ws : List (List UInt8)) : (emit n ws).length ≤ 1 := by unfold emit; split <;> simp
theorem close_len (ws : List (List UInt8)) (cur : List UInt8) : (close ws cur).length ≤ ws.length + 1 := by unfold close; split <;> simp
theorem PS.nl (h : PS l k n f off o ws cur) (hb : l[k]? = some 10) : PS l (k + 1) (n + 1) (-1) false (o ++ emit n (close ws cur)) [] [] := by
  have := lt_at hb
  have h1 := h.ho
  have h2 := emit_len n (close ws cur)
  refine ⟨?_, .inl ⟨rfl, rfl⟩, by omega, by have := h.hn; omega, by rw [List.length_append]; omega, Nat.zero_le _⟩
  have hf := h.fut
  rw [drop_at hb, lex_nl] at hf
  rw [← hf, List.append_assoc]
theorem PS.hash (h : PS l k n f off o ws cur) (hb : l[k]? = some 35) : PS l (k + 1) n (-1) true o (close ws cur) [] := by
  have := lt_at hb
  refine ⟨?_, .inl ⟨rfl, rfl⟩, by omega, by have := h.hn; omega, by have := h.ho; omega, by have := h.hw; have := close_len ws cur; omega⟩
  have hf := h.fut
  rw [drop_at hb, lex_hash] at hf
  exact hf
theorem PS.sp (h : PS l k n f off o ws cur) (hb : l[k]? = some 32) : PS l (k + 1) n (-1) off o (close ws cur) [] := by
  have := lt_at hb
  refine ⟨?_, .inl ⟨rfl, rfl⟩, by omega, by have := h.hn; omega, by have := h.ho; omega, by have := h.hw; have := close_len ws cur; omega⟩
  have hf := h.fut
  rw [drop_at hb, lex_sp] at hf
  exact hf
theorem PS.off_ (h : PS l k n f true o ws cur) (hb : l[k]? = some b) (h10 : b ≠ 10) (h35 : b ≠ 35) (h32 : b ≠ 32) : PS l (k + 1) n f true o ws cur := by
  have := lt_at hb
  refine ⟨?_, ?_, by omega, by have := h.hn; omega, by have := h.ho; omega, by have := h.hw; omega⟩
  · have hf := h.fut
    rw [drop_at hb, lex_off _ _ _ _ _ h10 h35 h32] at hf
    exact hf
  · rcases h.at_ with h1 | ⟨_, h1, _⟩
    · exact .inl h1
    · cases h1
theorem PS.begin_ (h : PS l k n f false o ws []) (hb : l[k]? = some b) (h10 : b ≠ 10) (h35 : b ≠ 35) (h32 : b ≠ 32) : PS l (k + 1) n (k : Int) false o ws [b] := by
  have hlt := lt_at hb
  refine ⟨?_, .inr ⟨by simp, rfl, k, rfl, by omega, ?_⟩, by omega, by have := h.hn; omega, by have := h.ho; omega, by have := h.hw; omega⟩
  · have hf := h.fut
    rw [drop_at hb, lex_on _ _ _ _ _ h10 h35 h32] at hf
    exact hf
  · obtain ⟨_, he⟩ := List.getElem?_eq_some_iff.1 hb
    rw [List.take_succ_eq_append_getElem hlt, he, List.drop_left' (by rw [List.length_take]; omega)]
theorem PS.go (h : PS l k n f false o ws cur) (hc : cur ≠ []) (hb : l[k]? = some b) (h10 : b ≠ 10) (h35 : b ≠ 35) (h32 : b ≠ 32) : PS l (k + 1) n f false o ws (cur ++ [b]) := by
  have hlt := lt_at hb
  refine ⟨?_, ?_, by omega, by have := h.hn; omega, by have := h.ho; omega, by have := h.hw; omega⟩
  · have hf := h.fut
    rw [drop_at hb, lex_on _ _ _ _ _ h10 h35 h32] at hf
    exact hf
  · rcases h.at_ with ⟨h1, _⟩ | ⟨_, h1, f0, h2, h3, h4⟩
    · exact absurd h1 hc
    · refine .inr ⟨by simp, rfl, f0, h2, by omega, ?_⟩
      obtain ⟨_, he⟩ := List.getElem?_eq_some_iff.1 hb
      rw [List.take_succ_eq_append_getElem hlt, he, List.drop_append_of_le_length (by rw [List.length_take]; omega), ← h4]
theorem PS.last (h : PS l l.length n f off o ws cur) : o ++ emit n (close ws cur) = lex 1 [] [] false l := by
  have hf := h.fut
  rw [List.drop_length] at hf
  exact hf
theorem PS.free (h : PS l k n f off o ws []) : f = -1 := by
  rcases h.at_ with ⟨_, h1⟩ | ⟨h1, _⟩
  · exact h1
  · exact absurd rfl h1
theorem PS.held (h : PS l k n f off o ws cur) (hc : cur ≠ []) : off = false ∧ ∃ f0 : Nat, f = (f0 : Int) ∧ f0 < k ∧ cur = (l.take k).drop f0 := by
  rcases h.at_ with ⟨h1, _⟩ | ⟨_, h1⟩
  · exact absurd h1 hc
  · exact h1
theorem close_nil (ws : List (List UInt8)) : close ws [] = ws := rfl
theorem close_word (ws : List (List UInt8)) (h : cur ≠ []) : close ws cur = ws ++ [cur] := by unfold close; rw [if_neg h]
theorem emit_some (n : Nat) (h : ws ≠ []) : emit n ws = [(n, ws)] := by unfold emit; rw [if_neg h]
theorem emit_nil (n : Nat) : emit n [] = [] := rfl
end
end Go.TxtM
