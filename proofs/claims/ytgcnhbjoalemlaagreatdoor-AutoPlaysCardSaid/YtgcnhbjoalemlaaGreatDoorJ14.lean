/- Several texts of this proof in one file, each in its own namespace. -/
import Derived.Test.YtgcnhbjoalemlaaGreatDoorJ1
import Derived.Lib.Fields
import Derived.Lib.Space
/- Plain mathematics of layer 11: the lines and words of a text, byte by byte; the same out of its pieces; what is put together of the words again. Nothing of any program. -/
set_option linter.unusedVariables false
set_option linter.unusedSimpArgs false
namespace Go.TxtM
open Go.Lib Go.AdrM

abbrev Line := Nat × List (List UInt8)
/-- A byte that a text may have. -/
def okb (b : UInt8) : Bool := b == 10 || (decide (32 ≤ b.toNat) && decide (b.toNat ≤ 126))
def emit (n : Nat) (ws : List (List UInt8)) : List Line := if ws = [] then [] else [(n, ws)]
def close (ws : List (List UInt8)) (cur : List UInt8) : List (List UInt8) := if cur = [] then ws else ws ++ [cur]
/-- The lines of what is left: the line's number, its words so far, the word that is read, whether a # was met. -/
def lex : Nat → List (List UInt8) → List UInt8 → Bool → List UInt8 → List Line
  | n, ws, cur, _, [] => emit n (close ws cur)
  | n, ws, cur, off, b :: l =>
    if b = 10 then emit n (close ws cur) ++ lex (n + 1) [] [] false l
    else if b = 35 then lex n (close ws cur) [] true l
    else if b = 32 then lex n (close ws cur) [] off l
    else if off = true then lex n ws cur off l
    else lex n ws (cur ++ [b]) off l

/-! What Lines answers. -/
def errOf (l : List UInt8) : Nat := if 4096 < l.length then 2 else if l.all okb = true then 0 else 3
def lineOf (l : List UInt8) : Nat := if 4096 < l.length then 0 else if l.all okb = true then 0 else 1 + (l.takeWhile okb).count 10
def linesOf (l : List UInt8) : List Line := if errOf l = 0 then lex 1 [] [] false l else []

theorem errOf_over {l : List UInt8} (h : 4096 < l.length) : errOf l = 2 ∧ lineOf l = 0 ∧ linesOf l = [] := by
  have e : errOf l = 2 := by unfold errOf; rw [if_pos h]
  refine ⟨e, by unfold lineOf; rw [if_pos h], ?_⟩
  unfold linesOf; rw [e]; rfl
theorem errOf_bad {l : List UInt8} (h : l.length ≤ 4096) (hb : l.all okb = false) : errOf l = 3 ∧ lineOf l = 1 + (l.takeWhile okb).count 10 ∧ linesOf l = [] := by
  have e : errOf l = 3 := by unfold errOf; rw [if_neg (by omega), hb]; rfl
  refine ⟨e, by unfold lineOf; rw [if_neg (by omega), hb]; rfl, ?_⟩
  unfold linesOf; rw [e]; rfl
theorem errOf_ok {l : List UInt8} (h : l.length ≤ 4096) (hb : l.all okb = true) : errOf l = 0 ∧ lineOf l = 0 ∧ linesOf l = lex 1 [] [] false l := by
  have e : errOf l = 0 := by unfold errOf; rw [if_neg (by omega), if_pos hb]
  refine ⟨e, by unfold lineOf; rw [if_neg (by omega), if_pos hb], ?_⟩
  unfold linesOf; rw [if_pos e]
theorem errOf_zero {l : List UInt8} (h : errOf l = 0) : l.length ≤ 4096 ∧ l.all okb = true := by
  by_cases h1 : 4096 < l.length
  · rw [(errOf_over h1).1] at h; omega
  · cases hb : l.all okb with
    | true => exact ⟨by omega, rfl⟩
    | false => rw [(errOf_bad (by omega) hb).1] at h; omega
/-! The first byte that may not occur. -/
/-! Of pieces. -/
/-- What is ahead of the first #. -/
def ahead : List UInt8 → List UInt8
  | [] => []
  | b :: l => if b = 35 then [] else b :: ahead l
/-! Steps of the reference's reading. -/
theorem lex_nl (n : Nat) (ws : List (List UInt8)) (cur : List UInt8) (off : Bool) (l : List UInt8) : lex n ws cur off (10 :: l) = emit n (close ws cur) ++ lex (n + 1) [] [] false l := by
  show (if (10 : UInt8) = 10 then _ else _) = _
  rw [if_pos rfl]
theorem lex_hash (n : Nat) (ws : List (List UInt8)) (cur : List UInt8) (off : Bool) (l : List UInt8) : lex n ws cur off (35 :: l) = lex n (close ws cur) [] true l := by
  show (if (35 : UInt8) = 10 then _ else if (35 : UInt8) = 35 then _ else _) = _
  rw [if_neg (by decide), if_pos rfl]
theorem lex_sp (n : Nat) (ws : List (List UInt8)) (cur : List UInt8) (off : Bool) (l : List UInt8) : lex n ws cur off (32 :: l) = lex n (close ws cur) [] off l := by
  show (if (32 : UInt8) = 10 then _ else if (32 : UInt8) = 35 then _ else if (32 : UInt8) = 32 then _ else _) = _
  rw [if_neg (by decide), if_neg (by decide), if_pos rfl]
theorem lex_off (n : Nat) (ws : List (List UInt8)) (cur : List UInt8) (b : UInt8) (l : List UInt8) (h10 : b ≠ 10) (h35 : b ≠ 35) (h32 : b ≠ 32) : lex n ws cur true (b :: l) = lex n ws cur true l := by
  show (if b = 10 then _ else if b = 35 then _ else if b = 32 then _ else if true = true then _ else _) = _
  rw [if_neg h10, if_neg h35, if_neg h32, if_pos rfl]
theorem lex_on (n : Nat) (ws : List (List UInt8)) (cur : List UInt8) (b : UInt8) (l : List UInt8) (h10 : b ≠ 10) (h35 : b ≠ 35) (h32 : b ≠ 32) : lex n ws cur false (b :: l) = lex n ws (cur ++ [b]) false l := by
  show (if b = 10 then _ else if b = 35 then _ else if b = 32 then _ else if false = true then _ else _) = _
  rw [if_neg h10, if_neg h35, if_neg h32, if_neg (by simp)]

/-! Put together again. -/
def Clean (w : List UInt8) : Prop := w ≠ [] ∧ ∀ b ∈ w, 33 ≤ b.toNat ∧ b.toNat ≤ 126 ∧ b ≠ 35
def Good : Nat → List Line → Prop
  | _, [] => True
  | m, (n, ws) :: ls => m ≤ n ∧ ws ≠ [] ∧ (∀ w ∈ ws, Clean w) ∧ Good (n + 1) ls
theorem Good.mono : ∀ {ls : List Line} {m m' : Nat}, Good m ls → m' ≤ m → Good m' ls
  | [], _, _, _, _ => trivial
  | (n, ws) :: ls, _, _, h, hm => ⟨Nat.le_trans hm h.1, h.2⟩
theorem emit_good {n m : Nat} {ws : List (List UInt8)} {ls : List Line} (h : ∀ w ∈ ws, Clean w) (hm : m ≤ n) (hl : Good (n + 1) ls) : Good m (emit n ws ++ ls) := by
  unfold emit
  split
  · exact hl.mono (by omega)
  · rename_i hne; exact ⟨hm, hne, h, hl⟩
theorem close_clean {ws : List (List UInt8)} {cur : List UInt8} (h : ∀ w ∈ ws, Clean w) (hc : cur = [] ∨ Clean cur) : ∀ w ∈ close ws cur, Clean w := by
  unfold close
  split
  · exact h
  · rename_i hne
    intro w hw
    rcases List.mem_append.1 hw with hw | hw
    · exact h w hw
    · rw [List.mem_singleton.1 hw]; exact hc.resolve_left hne
theorem clean_snoc {cur : List UInt8} {b : UInt8} (hc : cur = [] ∨ Clean cur) (hb : okb b = true) (h10 : b ≠ 10) (h35 : b ≠ 35) (h32 : b ≠ 32) : Clean (cur ++ [b]) := by
  refine ⟨by simp, fun c h => ?_⟩
  rcases List.mem_append.1 h with h | h
  · rcases hc with rfl | hc
    · cases h
    · exact hc.2 c h
  · rw [List.mem_singleton.1 h]
    unfold okb at hb
    rcases Bool.or_eq_true _ _ ▸ hb with hb | hb
    · exact absurd (by simpa using hb) h10
    · rw [Bool.and_eq_true, decide_eq_true_iff, decide_eq_true_iff] at hb
      have : b.toNat ≠ 32 := fun e => h32 (UInt8.toNat_inj.1 e)
      exact ⟨by omega, hb.2, h35⟩
theorem lex_good : ∀ (l : List UInt8) (n : Nat) (ws : List (List UInt8)) (cur : List UInt8) (off : Bool), l.all okb = true → (∀ w ∈ ws, Clean w) → (cur = [] ∨ Clean cur) → Good n (lex n ws cur off l) := by
  intro l
  induction l with
  | nil =>
    intro n ws cur off _ hw hc
    show Good n (emit n (close ws cur))
    have := emit_good (n := n) (m := n) (ls := []) (close_clean hw hc) (Nat.le_refl _) trivial
    rwa [List.append_nil] at this
  | cons b l ih =>
    intro n ws cur off hv hw hc
    rw [List.all_cons, Bool.and_eq_true] at hv
    obtain ⟨hb, hv⟩ := hv
    by_cases h10 : b = 10
    · subst h10; rw [lex_nl]
      exact emit_good (close_clean hw hc) (Nat.le_refl _) (ih _ _ _ _ hv (fun w h => by cases h) (.inl rfl))
    · by_cases h35 : b = 35
      · subst h35; rw [lex_hash]; exact ih _ _ _ _ hv (close_clean hw hc) (.inl rfl)
      · by_cases h32 : b = 32
        · subst h32; rw [lex_sp]; exact ih _ _ _ _ hv (close_clean hw hc) (.inl rfl)
        · cases off with
          | true => rw [lex_off _ _ _ _ _ h10 h35 h32]; exact ih _ _ _ _ hv hw hc
          | false => rw [lex_on _ _ _ _ _ h10 h35 h32]; exact ih _ _ _ _ hv hw (.inr (clean_snoc hc hb h10 h35 h32))

def joinL : Nat → List Line → List UInt8
  | _, [] => []
  | m, (n, ws) :: ls => List.replicate (n - m) 10 ++ (join 32 ws ++ joinL n ls)
/-! Reading it again. -/
theorem lex_word (n : Nat) (W : List (List UInt8)) : ∀ (w : List UInt8) (C t : List UInt8), (∀ b ∈ w, 33 ≤ b.toNat ∧ b.toNat ≤ 126 ∧ b ≠ 35) → lex n W C false (w ++ t) = lex n W (C ++ w) false t := by
  intro w
  induction w with
  | nil => intro C t _; simp
  | cons b w ih =>
    intro C t h
    obtain ⟨h1, h2, h3⟩ := h b (by simp)
    have h10 : b ≠ 10 := fun e => by subst e; exact absurd h1 (by decide)
    have h32 : b ≠ 32 := fun e => by subst e; exact absurd h1 (by decide)
    rw [List.cons_append, lex_on _ _ _ _ _ h10 h3 h32, ih _ _ (fun c hc => h c (by simp [hc]))]
    simp
theorem lex_words (n : Nat) : ∀ (ws : List (List UInt8)) (W : List (List UInt8)), ws ≠ [] → (∀ w ∈ ws, Clean w) → ∃ W' C, close W' C = W ++ ws ∧ ∀ t, lex n W [] false (join 32 ws ++ t) = lex n W' C false t := by
  intro ws
  induction ws with
  | nil => intro W h; exact absurd rfl h
  | cons w ws ih =>
    intro W _ h
    have hw := h w (by simp)
    cases ws with
    | nil =>
      refine ⟨W, w, by unfold close; rw [if_neg hw.1], fun t => ?_⟩
      show lex n W [] false (w ++ t) = _
      rw [lex_word _ _ _ _ _ hw.2]; rfl
    | cons v ws =>
      obtain ⟨W', C, e, ht⟩ := ih (W ++ [w]) (by simp) (fun x hx => h x (by simp [hx]))
      refine ⟨W', C, by rw [e]; simp, fun t => ?_⟩
      show lex n W [] false ((w ++ 32 :: join 32 (v :: ws)) ++ t) = _
      rw [List.append_assoc, lex_word _ _ _ _ _ hw.2, List.cons_append, lex_sp, List.nil_append]
      have : close W w = W ++ [w] := by unfold close; rw [if_neg hw.1]
      rw [this]
      exact ht t
theorem lex_lines : ∀ (k n : Nat) (t : List UInt8), lex n [] [] false (List.replicate k 10 ++ t) = lex (n + k) [] [] false t := by
  intro k
  induction k with
  | zero => intro n t; simp
  | succ k ih =>
    intro n t
    rw [List.replicate_succ, List.cons_append, lex_nl, ih, show n + 1 + k = n + (k + 1) by omega]
    rfl
theorem lex_join : ∀ (ls : List Line) (m : Nat), Good m ls → lex m [] [] false (joinL m ls) = ls ∧ (∀ (n : Nat) (W : List (List UInt8)) (C : List UInt8), n + 1 = m → lex n W C false (joinL n ls) = emit n (close W C) ++ ls) := by
  intro ls
  induction ls with
  | nil => intro m _; exact ⟨rfl, fun n W C _ => by show emit n (close W C) = _; simp⟩
  | cons x ls ih =>
    intro m h
    obtain ⟨k, ws⟩ := x
    obtain ⟨h1, h2, h3, h4⟩ := h
    have main : lex m [] [] false (joinL m ((k, ws) :: ls)) = (k, ws) :: ls := by
      show lex m [] [] false (List.replicate (k - m) 10 ++ (join 32 ws ++ joinL k ls)) = _
      rw [lex_lines, show m + (k - m) = k by omega]
      obtain ⟨W', C, e, ht⟩ := lex_words k ws [] h2 h3
      rw [ht, (ih (k + 1) h4).2 k W' C rfl, e]
      unfold emit
      rw [if_neg (by simpa using h2)]
      rfl
    refine ⟨main, fun n W C hn => ?_⟩
    subst hn
    have e : joinL n ((k, ws) :: ls) = 10 :: joinL (n + 1) ((k, ws) :: ls) := by
      show List.replicate (k - n) 10 ++ _ = 10 :: (List.replicate (k - (n + 1)) 10 ++ _)
      rw [show k - n = (k - (n + 1)) + 1 by omega, List.replicate_succ]
      rfl
    rw [e, lex_nl, main]
theorem joinL_ok : ∀ (ls : List Line) (m : Nat), Good m ls → (joinL m ls).all okb = true := by
  have hj : ∀ ws : List (List UInt8), (∀ w ∈ ws, Clean w) → (join 32 ws).all okb = true := by
    intro ws
    induction ws with
    | nil => intro _; rfl
    | cons w ws ih =>
      intro h
      have hw : w.all okb = true := by
        rw [List.all_eq_true]
        intro b hb
        have := (h w (by simp)).2 b hb
        unfold okb
        rw [Bool.or_eq_true, Bool.and_eq_true, decide_eq_true_iff, decide_eq_true_iff]
        exact .inr ⟨by omega, by omega⟩
      cases ws with
      | nil => exact hw
      | cons v ws =>
        show (w ++ 32 :: join 32 (v :: ws)).all okb = true
        rw [List.all_append, List.all_cons, hw, ih (fun x hx => h x (by simp [hx]))]
        decide
  intro ls
  induction ls with
  | nil => intro m _; rfl
  | cons x ls ih =>
    intro m h
    obtain ⟨k, ws⟩ := x
    obtain ⟨h1, h2, h3, h4⟩ := h
    show (List.replicate (k - m) 10 ++ (join 32 ws ++ joinL k ls)).all okb = true
    rw [List.all_append, List.all_append, hj ws h3, ih k (h4.mono (by omega))]
    rw [Bool.and_true, Bool.and_true, List.all_eq_true]
    intro b hb
    rw [List.eq_of_mem_replicate hb]; decide
def mass (ws : List (List UInt8)) : Nat := (ws.map fun w => w.length + 1).sum
theorem mass_snoc (ws : List (List UInt8)) (w : List UInt8) : mass (ws ++ [w]) = mass ws + (w.length + 1) := by
  unfold mass; simp
theorem join_len : ∀ ws : List (List UInt8), (join 32 ws).length ≤ mass ws - 1 := by
  intro ws
  induction ws with
  | nil => simp [join]
  | cons w ws ih =>
    cases ws with
    | nil => simp [join, mass]
    | cons v ws =>
      show (w ++ 32 :: join 32 (v :: ws)).length ≤ _
      have e : mass (w :: v :: ws) = w.length + 1 + mass (v :: ws) := by simp [mass]
      have : 1 ≤ mass (v :: ws) := by simp [mass]; omega
      rw [e]; simp; omega
theorem close_mass (ws : List (List UInt8)) (cur : List UInt8) : mass (close ws cur) ≤ mass ws + cur.length + 1 ∧ mass (close ws cur) - 1 ≤ mass ws + cur.length := by
  unfold close
  split
  · omega
  · rw [mass_snoc]; omega
theorem lex_len : ∀ (l : List UInt8) (n : Nat) (ws : List (List UInt8)) (cur : List UInt8) (off : Bool) (m : Nat), m ≤ n → (joinL m (lex n ws cur off l)).length ≤ (n - m) + mass ws + cur.length + l.length := by
  intro l
  induction l with
  | nil =>
    intro n ws cur off m hm
    show (joinL m (emit n (close ws cur))).length ≤ _
    unfold emit
    split
    · simp [joinL]
    · have h1 := join_len (close ws cur)
      have h2 := (close_mass ws cur).2
      show (List.replicate (n - m) 10 ++ (join 32 (close ws cur) ++ [])).length ≤ _
      simp; omega
  | cons b l ih =>
    intro n ws cur off m hm
    have hc := close_mass ws cur
    by_cases h10 : b = 10
    · subst h10; rw [lex_nl]
      unfold emit
      split
      · have := ih (n + 1) [] [] false m (by omega)
        simp [mass] at this ⊢; omega
      · have := ih (n + 1) [] [] false n (by omega)
        have h1 := join_len (close ws cur)
        show (List.replicate (n - m) 10 ++ (join 32 (close ws cur) ++ joinL n (lex (n + 1) [] [] false l))).length ≤ _
        simp [mass] at this ⊢
        have := hc.2
        simp [mass] at h1 this
        omega
    · by_cases h35 : b = 35
      · subst h35; rw [lex_hash]
        have := ih n (close ws cur) [] true m hm
        simp at this ⊢; omega
      · by_cases h32 : b = 32
        · subst h32; rw [lex_sp]
          have := ih n (close ws cur) [] off m hm
          simp at this ⊢; omega
        · cases off with
          | true => rw [lex_off _ _ _ _ _ h10 h35 h32]; have := ih n ws cur true m hm; simp at this ⊢; omega
          | false => rw [lex_on _ _ _ _ _ h10 h35 h32]; have := ih n ws (cur ++ [b]) false m hm; simp at this ⊢; omega
/-- What TextAgain asks, of lists. -/
theorem again {l : List UInt8} (h : errOf l = 0) : Good 1 (linesOf l) ∧ (joinL 1 (linesOf l)).length ≤ l.length ∧ errOf (joinL 1 (linesOf l)) = 0 ∧ linesOf (joinL 1 (linesOf l)) = linesOf l := by
  obtain ⟨h1, h2⟩ := errOf_zero h
  have e := (errOf_ok h1 h2).2.2
  have hg : Good 1 (linesOf l) := by rw [e]; exact lex_good l 1 [] [] false h2 (fun w h => by cases h) (.inl rfl)
  have hl : (joinL 1 (linesOf l)).length ≤ l.length := by
    rw [e]
    have := lex_len l 1 [] [] false 1 (Nat.le_refl _)
    simpa [mass] using this
  have hk := errOf_ok (l := joinL 1 (linesOf l)) (by omega) (joinL_ok _ _ hg)
  exact ⟨hg, hl, hk.1, by rw [hk.2.2]; exact (lex_join _ _ hg).1⟩
end Go.TxtM
/- Plain mathematics of layer 12: rules, their lines, what lines compile to; printed rules compile unchanged. Nothing of any program. -/
set_option linter.unusedVariables false
set_option linter.unusedSimpArgs false
namespace Go.RulM
open Go.Lib Go.AdrM
open Go.TxtM (Line errOf lineOf linesOf lex okb emit close)

/-- A rule, by its ten cells. -/
structure R where
  acc : Bool
  pr : Nat
  sa : Nat
  sb : Int
  da : Nat
  db : Int
  sl : Nat
  sh : Nat
  dl : Nat
  dh : Nat
deriving DecidableEq
/-- Its cells are values of their types. -/
structure R.Ok (r : R) : Prop where
  pr : r.pr < 256
  sa : r.sa < 4294967296
  sb : -9223372036854775808 ≤ r.sb ∧ r.sb ≤ 9223372036854775807
  da : r.da < 4294967296
  db : -9223372036854775808 ≤ r.db ∧ r.db ≤ 9223372036854775807
  sl : r.sl < 65536
  sh : r.sh < 65536
  dl : r.dl < 65536
  dh : r.dh < 65536

def icmpL : List UInt8 := [105, 99, 109, 112]
def tcpL : List UInt8 := [116, 99, 112]
def udpL : List UInt8 := [117, 100, 112]
/-- The word of a protocol; nothing: it has none. -/
def wordS (p : Nat) : List UInt8 := if p = 0 then anyL else if p = 1 then icmpL else if p = 6 then tcpL else if p = 17 then udpL else []
def known (p : Nat) : Bool := p == 0 || p == 1 || p == 6 || p == 17
theorem known_iff (p : Nat) : known p = true ↔ p = 0 ∨ p = 1 ∨ p = 6 ∨ p = 17 := by unfold known; simp [or_assoc]
theorem known_word (p : Nat) : (wordS p == []) = !known p := by
  unfold wordS known
  by_cases h0 : p = 0
  · subst h0; rfl
  · by_cases h1 : p = 1
    · subst h1; rfl
    · by_cases h6 : p = 6
      · subst h6; rfl
      · by_cases h17 : p = 17
        · subst h17; rfl
        · simp [h0, h1, h6, h17]
def netL (a : Nat) (n : Int) : List UInt8 := if n = 0 then anyL else printS a ++ (47 :: decDigits n.toNat)
theorem show_yes {a : Nat} {n : Int} (h : validS a n = true) : showS a n = some (netL a n) := by unfold showS; rw [if_pos h]; rfl
def goodR (r : R) : Bool := known r.pr && validS r.sa r.sb && validS r.da r.db && decide (r.sl ≤ r.sh) && decide (r.dl ≤ r.dh)
/-! What has no space in it. -/
def Ink (w : List UInt8) : Prop := ∀ b ∈ w, 33 ≤ b.toNat ∧ b.toNat ≤ 126 ∧ b ≠ 35
instance (w : List UInt8) : Decidable (Ink w) := inferInstanceAs (Decidable (∀ b ∈ w, _))
theorem ne_word {p : Nat} (h : known p = true) : wordS p ≠ [] := by
  have := known_word p
  rw [h] at this
  simpa using this
/-! Lines put together and parted again. -/
/-! Lengths. -/
/-! Ports. -/
/-! Protocols. -/
/-! A line of words. -/
/-! Lists of lines. -/
theorem drop_at {ls : List Line} {k n : Nat} {ws : List (List UInt8)} (h : ls[k]? = some (n, ws)) : ls.drop k = (n, ws) :: ls.drop (k + 1) := by
  obtain ⟨hlt, he⟩ := List.getElem?_eq_some_iff.1 h
  rw [List.drop_eq_getElem_cons hlt, he]
/-! Printed rules, read again. -/
end Go.RulM
/- Plain mathematics of layer 13: which rule of a list a packet meets first. Nothing of any program. -/
set_option linter.unusedVariables false
set_option linter.unusedSimpArgs false
namespace Go.MatM
open Go.RulM (R)
open Go.AdrM (validS hasS)

/-- A packet, by its seven cells. -/
structure K where
  pr : Nat
  sr : Nat
  ds : Nat
  sp : Nat
  dp : Nat
  fl : Nat
  kd : Nat
/-- Its cells are values of their types. -/
structure K.Ok (k : K) : Prop where
  pr : k.pr < 256
  sr : k.sr < 4294967296
  ds : k.ds < 4294967296
  sp : k.sp < 65536
  dp : k.dp < 65536
  fl : k.fl < 256
  kd : k.kd < 256
theorem k_of {a b c d e f g : Int} (h : (0 ≤ a ∧ a ≤ 255) ∧ (0 ≤ b ∧ b ≤ 4294967295) ∧ (0 ≤ c ∧ c ≤ 4294967295) ∧ (0 ≤ d ∧ d ≤ 65535) ∧ (0 ≤ e ∧ e ≤ 65535) ∧ (0 ≤ f ∧ f ≤ 255) ∧ (0 ≤ g ∧ g ≤ 255)) :
    ∃ k : K, k.Ok ∧ a = (k.pr : Int) ∧ b = (k.sr : Int) ∧ c = (k.ds : Int) ∧ d = (k.sp : Int) ∧ e = (k.dp : Int) ∧ f = (k.fl : Int) ∧ g = (k.kd : Int) := by
  obtain ⟨h1, h2, h3, h4, h5, h6, h7⟩ := h
  refine ⟨⟨a.toNat, b.toNat, c.toNat, d.toNat, e.toNat, f.toNat, g.toNat⟩, ⟨?_, ?_, ?_, ?_, ?_, ?_, ?_⟩, ?_, ?_, ?_, ?_, ?_, ?_, ?_⟩ <;> simp only <;> omega

def protoB (r : R) (k : K) : Bool := decide (r.pr = 0) || decide (r.pr = k.pr)
def inB (a b x : Nat) : Bool := decide (a ≤ x) && decide (x ≤ b)
/-- The packet matches the rule. -/
def hitB (r : R) (k : K) : Bool := protoB r k && ((hasS r.sa r.sb k.sr && hasS r.da r.db k.ds) && (inB r.sl r.sh k.sp && inB r.dl r.dh k.dp))
theorem protoB_any {r : R} {k : K} (h : r.pr = 0) : protoB r k = true := by unfold protoB; rw [decide_eq_true h, Bool.true_or]
theorem protoB_is {r : R} {k : K} (h : r.pr ≠ 0) : protoB r k = decide (r.pr = k.pr) := by unfold protoB; rw [decide_eq_false h, Bool.false_or]

/-- The first rule that it matches: its place. -/
def fst (k : K) (rs : List R) : Option Nat := rs.findIdx? (fun r => hitB r k)
def idxI : Option Nat → Int
  | some n => (n : Int)
  | none => -1
def accB (rs : List R) : Option Nat → Bool
  | some n => (rs[n]?.map (·.acc)).getD false
  | none => false
theorem fst_hit {k : K} {rs : List R} {i : Nat} {r : R} (hr : rs[i]? = some r) (hh : hitB r k = true) (hb : ∀ (j : Nat) q, j < i → rs[j]? = some q → hitB q k = false) : fst k rs = some i := by
  obtain ⟨hi, e⟩ := List.getElem?_eq_some_iff.1 hr
  refine List.findIdx?_eq_some_iff_getElem.2 ⟨hi, by rw [e]; exact hh, fun j hj => ?_⟩
  rw [hb j _ hj (List.getElem?_eq_getElem (by omega))]
  decide
theorem fst_none {k : K} {rs : List R} (hb : ∀ (j : Nat) q, rs[j]? = some q → hitB q k = false) : fst k rs = none := by
  refine List.findIdx?_eq_none_iff.2 fun x hx => ?_
  obtain ⟨i, hi, rfl⟩ := List.getElem_of_mem hx
  exact hb i _ (List.getElem?_eq_getElem hi)
theorem fst_some {k : K} {rs : List R} {i : Nat} (h : fst k rs = some i) : ∃ r, rs[i]? = some r ∧ hitB r k = true ∧ ∀ (j : Nat) q, j < i → rs[j]? = some q → hitB q k = false := by
  obtain ⟨hi, h1, h2⟩ := List.findIdx?_eq_some_iff_getElem.1 h
  refine ⟨rs[i], List.getElem?_eq_getElem hi, h1, fun j q hj hq => ?_⟩
  obtain ⟨hj', e⟩ := List.getElem?_eq_some_iff.1 hq
  have := h2 j hj
  rw [e] at this
  simpa using this
theorem accB_at {rs : List R} {i : Nat} {r : R} (hr : rs[i]? = some r) : accB rs (some i) = r.acc := by
  show (rs[i]?.map (·.acc)).getD false = r.acc
  rw [hr]; rfl
/-- The first hundred. -/
def few (rs : List R) : List R := if 100 < rs.length then rs.take 100 else rs
theorem few_len (rs : List R) : (few rs).length ≤ 100 ∧ (few rs).length ≤ rs.length := by
  unfold few; split
  · rw [List.length_take]; omega
  · omega
theorem few_ok {rs : List R} (h : ∀ r ∈ rs, r.Ok) : ∀ r ∈ few rs, r.Ok := by
  unfold few; split
  · exact fun r hr => h r (List.mem_of_mem_take hr)
  · exact h
end Go.MatM
