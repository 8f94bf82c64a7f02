/- Plain mathematics of layer 11: the lines and words of a text, byte by byte; the same out of its pieces; what is put together of the words again. Nothing of any program. -/
import Derived.Test.YtaniiofoaaekbaaAdrK
import Derived.Lib.Fields
import Derived.Lib.Space
set_option linter.unusedVariables false
set_option linter.unusedSimpArgs false
namespace Go.TxtM
open Go.Lib Go.AdrM

abbrev Line := Nat × List (List UInt8)
/-- A byte that a text may have. -/
def okb (b : UInt8) : Bool := b == 10 || (decide (32 ≤ b.toNat) && decide (b.toNat ≤ 126))
def emit (n : Nat) (ws : List (List UInt8)) : List Line := if ws = [] then [] else [(n, ws)]
def close (ws : List (List UInt8)) (cur : List UInt8) : List (List UInt8) := if cur = [] then ws else ws ++ [cur]
/-- The lines of what is left: the line's number, its words so far, the word that is read, whether a # was met. -/
def lex : Nat → List (List UInt8) → List UInt8 → Bool → List UInt8 → List Line
  | n, ws, cur, _, [] => emit n (close ws cur)
  | n, ws, cur, off, b :: l =>
    if b = 10 then emit n (close ws cur) ++ lex (n + 1) [] [] false l
    else if b = 35 then lex n (close ws cur) [] true l
    else if b = 32 then lex n (close ws cur) [] off l
    else if off = true then lex n ws cur off l
    else lex n ws (cur ++ [b]) off l

/-! What Lines answers. -/
def errOf (l : List UInt8) : Nat := if 4096 < l.length then 2 else if l.all okb = true then 0 else 3
def lineOf (l : List UInt8) : Nat := if 4096 < l.length then 0 else if l.all okb = true then 0 else 1 + (l.takeWhile okb).count 10
def linesOf (l : List UInt8) : List Line := if errOf l = 0 then lex 1 [] [] false l else []

theorem errOf_over {l : List UInt8} (h : 4096 < l.length) : errOf l = 2 ∧ lineOf l = 0 ∧ linesOf l = [] := by
  have e : errOf l = 2 := by unfold errOf; rw [if_pos h]
  refine ⟨e, by unfold lineOf; rw [if_pos h], ?_⟩
  unfold linesOf; rw [e]; rfl
theorem errOf_bad {l : List UInt8} (h : l.length ≤ 4096) (hb : l.all okb = false) : errOf l = 3 ∧ lineOf l = 1 + (l.takeWhile okb).count 10 ∧ linesOf l = [] := by
  have e : errOf l = 3 := by unfold errOf; rw [if_neg (by omega), hb]; rfl
  refine ⟨e, by unfold lineOf; rw [if_neg (by omega), hb]; rfl, ?_⟩
  unfold linesOf; rw [e]; rfl
theorem errOf_ok {l : List UInt8} (h : l.length ≤ 4096) (hb : l.all okb = true) : errOf l = 0 ∧ lineOf l = 0 ∧ linesOf l = lex 1 [] [] false l := by
  have e : errOf l = 0 := by unfold errOf; rw [if_neg (by omega), if_pos hb]
  refine ⟨e, by unfold lineOf; rw [if_neg (by omega), if_pos hb], ?_⟩
  unfold linesOf; rw [if_pos e]
theorem errOf_zero {l : List UInt8} (h : errOf l = 0) : l.length ≤ 4096 ∧ l.all okb = true := by
  by_cases h1 : 4096 < l.length
  · rw [(errOf_over h1).1] at h; omega
  · cases hb : l.all okb with
    | true => exact ⟨by omega, rfl⟩
    | false => rw [(errOf_bad (by omega) hb).1] at h; omega
theorem errOf_le (l : List UInt8) : errOf l ≤ 3 := by unfold errOf; split <;> (try split) <;> omega
theorem lineOf_le (l : List UInt8) : lineOf l ≤ 4097 := by
  unfold lineOf
  split
  · omega
  · split
    · omega
    · have h1 : (l.takeWhile okb).count 10 ≤ (l.takeWhile okb).length := List.count_le_length
      have h2 := (List.takeWhile_sublist (p := okb) (l := l)).length_le
      omega

/-! The first byte that may not occur. -/
theorem all_take_snoc {l : List UInt8} {k : Nat} {b : UInt8} (hk : l[k]? = some b) (h : (l.take k).all okb = true) (hb : okb b = true) : (l.take (k + 1)).all okb = true := by
  have hlt := (List.getElem?_eq_some_iff.1 hk)
  obtain ⟨hlt, he⟩ := hlt
  rw [List.take_succ_eq_append_getElem hlt, List.all_append, h, he]
  simp [hb]
theorem count_take_snoc {l : List UInt8} {k : Nat} {b : UInt8} (hk : l[k]? = some b) : (l.take (k + 1)).count 10 = (l.take k).count 10 + (if b = 10 then 1 else 0) := by
  obtain ⟨hlt, he⟩ := (List.getElem?_eq_some_iff.1 hk)
  rw [List.take_succ_eq_append_getElem hlt, List.count_append, he]
  by_cases hb : b = 10
  · subst hb; simp
  · rw [if_neg hb, List.count_singleton]; simp [hb]
theorem bad_at {l : List UInt8} {k : Nat} {b : UInt8} (hk : l[k]? = some b) (h : (l.take k).all okb = true) (hb : okb b = false) : l.all okb = false ∧ l.takeWhile okb = l.take k := by
  obtain ⟨hlt, he⟩ := (List.getElem?_eq_some_iff.1 hk)
  have e : l = l.take k ++ b :: l.drop (k + 1) := by
    conv => lhs; rw [← List.take_append_drop k l]
    rw [List.drop_eq_getElem_cons hlt, he]
  constructor
  · rw [e, List.all_append]; simp [hb]
  · conv => lhs; rw [e]
    rw [List.takeWhile_append_of_pos (fun x hx => (List.all_eq_true.1 h) x hx), List.takeWhile_cons, hb]
    simp
theorem len_takeWhile_lt {l : List UInt8} (h : l.all okb = false) : (l.takeWhile okb).length < l.length := by
  induction l with
  | nil => simp at h
  | cons b l ih =>
    rw [List.takeWhile_cons]
    split
    · rename_i hb
      rw [List.all_cons, hb, Bool.true_and] at h
      have := ih h
      simp; omega
    · simp
theorem take_takeWhile (l : List UInt8) : l.take (l.takeWhile okb).length = l.takeWhile okb := by
  have h : l.takeWhile okb ++ l.dropWhile okb = l := List.takeWhile_append_dropWhile
  refine (congrArg (List.take (l.takeWhile okb).length) h.symm).trans ?_
  exact List.take_left

/-! Of pieces. -/
def wordsL (p : List UInt8) : List (List UInt8) := fields (cut p [35]).1
def linesP : Nat → List (List UInt8) → List Line
  | _, [] => []
  | n, p :: ps => emit n (wordsL p) ++ linesP (n + 1) ps
theorem linesP_snoc (p : List UInt8) : ∀ (ps : List (List UInt8)) (n : Nat), linesP n (ps ++ [p]) = linesP n ps ++ emit (n + ps.length) (wordsL p) := by
  intro ps
  induction ps with
  | nil => intro n; simp [linesP]
  | cons q ps ih =>
    intro n
    show emit n (wordsL q) ++ linesP (n + 1) (ps ++ [p]) = _
    rw [ih, ← List.append_assoc, show n + 1 + ps.length = n + (q :: ps).length by simp; omega]
    rfl
theorem linesP_take {ps : List (List UInt8)} {k : Nat} {p : List UInt8} (h : ps[k]? = some p) (n : Nat) : linesP n (ps.take (k + 1)) = linesP n (ps.take k) ++ emit (n + k) (wordsL p) := by
  obtain ⟨hlt, he⟩ := (List.getElem?_eq_some_iff.1 h)
  rw [List.take_succ_eq_append_getElem hlt, he, linesP_snoc, List.length_take, Nat.min_eq_left (by omega)]
theorem linesP_len : ∀ (ps : List (List UInt8)) (n : Nat), (linesP n ps).length ≤ ps.length := by
  intro ps
  induction ps with
  | nil => intro n; exact Nat.le_refl _
  | cons p ps ih =>
    intro n
    have := ih (n + 1)
    show (emit n (wordsL p) ++ linesP (n + 1) ps).length ≤ _
    unfold emit
    split <;> simp <;> omega

theorem fieldsGo_len : ∀ (l cur : List UInt8), (fieldsGo cur l).length ≤ l.length + 1 := by
  intro l
  induction l with
  | nil => intro cur; unfold fieldsGo; split <;> simp
  | cons b l ih =>
    intro cur
    unfold fieldsGo
    split
    · split
      · have := ih []; simp; omega
      · have := ih []; simp; omega
    · have := ih (cur ++ [b]); simp; omega
/-- What is ahead of the first #. -/
def ahead : List UInt8 → List UInt8
  | [] => []
  | b :: l => if b = 35 then [] else b :: ahead l
theorem ahead_cut (l : List UInt8) : (cut l [35]).1 = ahead l := by
  by_cases h : (35 : UInt8) ∈ l
  · obtain ⟨p, r, e, hp⟩ := part_at 35 l h
    have hi := index_hit 35 p r hp
    unfold cut
    rw [e, hi, if_pos (by omega)]
    show (p ++ 35 :: r).take _ = _
    have : ∀ p : List UInt8, (35 : UInt8) ∉ p → ahead (p ++ 35 :: r) = p := by
      intro p
      induction p with
      | nil => intro _; simp [ahead]
      | cons b p ih =>
        intro hp
        have hb : b ≠ 35 := fun e => hp (by simp [e])
        show (if b = 35 then _ else _) = _
        rw [if_neg hb]
        exact congrArg _ (ih fun e => hp (by simp [e]))
    rw [this p hp]
    simp
  · have hi := index_miss 35 l h
    unfold cut
    rw [hi, if_neg (by omega)]
    show l = _
    induction l with
    | nil => rfl
    | cons b l ih =>
      have hb : b ≠ 35 := fun e => h (by simp [e])
      show _ = (if b = 35 then _ else _)
      rw [if_neg hb]
      exact congrArg _ (ih (fun e => h (by simp [e])) (index_miss 35 l (fun e => h (by simp [e]))))
theorem ahead_sub (l : List UInt8) : ∀ b ∈ ahead l, b ∈ l := by
  induction l with
  | nil => intro b h; cases h
  | cons c l ih =>
    intro b h
    unfold ahead at h
    split at h
    · cases h
    · rcases List.mem_cons.1 h with rfl | h
      · simp
      · simp [ih b h]
theorem ahead_len (l : List UInt8) : (ahead l).length ≤ l.length := by
  induction l with
  | nil => exact Nat.le_refl _
  | cons c l ih => unfold ahead; split <;> simp <;> omega
theorem wordsL_len (p : List UInt8) : (wordsL p).length ≤ p.length + 1 := by
  unfold wordsL
  rw [ahead_cut]
  have := fieldsGo_len (ahead p) []
  have := ahead_len p
  unfold fields
  omega
theorem isSp_okb {b : UInt8} (h : okb b = true) (h10 : b ≠ 10) : isSp b = decide (b = 32) := by
  have := b.toNat_lt
  unfold okb at h
  have hb : ∀ n, n < 256 → (UInt8.ofNat n = 10 ∨ (32 ≤ n ∧ n ≤ 126)) → UInt8.ofNat n ≠ 10 → isSp (UInt8.ofNat n) = decide (UInt8.ofNat n = 32) := by
    decide +kernel
  have h2 := hb b.toNat this
  rw [UInt8.ofNat_toNat] at h2
  refine h2 ?_ h10
  rcases Bool.or_eq_true _ _ ▸ h with h | h
  · exact .inl (by simpa using h)
  · rw [Bool.and_eq_true, decide_eq_true_iff, decide_eq_true_iff] at h; exact .inr h
/-- The words of a line that is read on. -/
def wordsOn (ws : List (List UInt8)) (cur : List UInt8) (off : Bool) (p : List UInt8) : List (List UInt8) := if off = true then ws else ws ++ fieldsGo cur (ahead p)
theorem close_is (ws : List (List UInt8)) (cur : List UInt8) : ws ++ fieldsGo cur [] = close ws cur := by
  unfold close fieldsGo
  cases cur <;> simp
theorem lex_pieces : ∀ (l : List UInt8) (n : Nat) (ws : List (List UInt8)) (cur : List UInt8) (off : Bool), l.all okb = true → (off = true → cur = []) →
    ∃ p ps, pieces 10 l = p :: ps ∧ lex n ws cur off l = emit n (wordsOn ws cur off p) ++ linesP (n + 1) ps := by
  intro l
  induction l with
  | nil =>
    intro n ws cur off _ ho
    refine ⟨[], [], rfl, ?_⟩
    show emit n (close ws cur) = emit n (wordsOn ws cur off []) ++ []
    rw [List.append_nil]
    unfold wordsOn
    split
    · rename_i h; rw [ho h]; rfl
    · show _ = emit n (ws ++ fieldsGo cur []); rw [close_is]
  | cons b l ih =>
    intro n ws cur off hv ho
    rw [List.all_cons, Bool.and_eq_true] at hv
    obtain ⟨hb, hv⟩ := hv
    by_cases h10 : b = 10
    · subst h10
      obtain ⟨p, ps, hp, hl⟩ := ih (n + 1) [] [] false hv (fun h => by cases h)
      refine ⟨[], p :: ps, by simp [pieces, hp], ?_⟩
      show (if (10 : UInt8) = 10 then emit n (close ws cur) ++ lex (n + 1) [] [] false l else _) = _
      rw [if_pos rfl, hl]
      have e1 : wordsOn ws cur off [] = close ws cur := by
        unfold wordsOn
        split
        · rename_i h; rw [ho h]; rfl
        · exact close_is ws cur
      have e2 : wordsOn [] [] false p = wordsL p := by unfold wordsOn wordsL; rw [ahead_cut]; rfl
      rw [e1, e2]
      rfl
    · have hpc : ∀ p ps, pieces 10 l = p :: ps → pieces 10 (b :: l) = (b :: p) :: ps := by
        intro p ps h
        show (if b = 10 then _ else _) = _
        rw [if_neg h10, h]
      have hsp := isSp_okb hb h10
      by_cases h35 : b = 35
      · subst h35
        obtain ⟨p, ps, hp, hl⟩ := ih n (close ws cur) [] true hv (fun _ => rfl)
        refine ⟨35 :: p, ps, hpc p ps hp, ?_⟩
        have e : lex n ws cur off (35 :: l) = lex n (close ws cur) [] true l := by
          show (if (35 : UInt8) = 10 then _ else if (35 : UInt8) = 35 then _ else _) = _
          rw [if_neg (by decide), if_pos rfl]
        rw [e, hl]
        have e1 : wordsOn ws cur off (35 :: p) = close ws cur := by
          unfold wordsOn
          split
          · rename_i h; rw [ho h]; rfl
          · have : ahead (35 :: p) = [] := by simp [ahead]
            rw [this]; exact close_is ws cur
        rw [e1]
        rfl
      · by_cases h32 : b = 32
        · subst h32
          obtain ⟨p, ps, hp, hl⟩ := ih n (close ws cur) [] off hv (fun _ => rfl)
          refine ⟨32 :: p, ps, hpc p ps hp, ?_⟩
          have e : lex n ws cur off (32 :: l) = lex n (close ws cur) [] off l := by
            show (if (32 : UInt8) = 10 then _ else if (32 : UInt8) = 35 then _ else if (32 : UInt8) = 32 then _ else _) = _
            rw [if_neg (by decide), if_neg (by decide), if_pos rfl]
          rw [e, hl]
          have e1 : wordsOn ws cur off (32 :: p) = wordsOn (close ws cur) [] off p := by
            unfold wordsOn
            cases off with
            | true => rw [if_pos rfl, if_pos rfl, ho rfl]; rfl
            | false =>
              rw [if_neg (by simp), if_neg (by simp)]
              have : ahead (32 :: p) = 32 :: ahead p := by simp [ahead]
              rw [this]
              unfold close
              cases cur with
              | nil => rw [fieldsGo_sp _ _ hsp]; simp
              | cons c cur => rw [fieldsGo_end _ _ _ hsp (by simp)]; simp
          rw [e1]
        · have hs0 : isSp b = false := by rw [hsp]; simpa using h32
          cases off with
          | true =>
            obtain ⟨p, ps, hp, hl⟩ := ih n ws cur true hv ho
            refine ⟨b :: p, ps, hpc p ps hp, ?_⟩
            have e : lex n ws cur true (b :: l) = lex n ws cur true l := by
              show (if b = 10 then _ else if b = 35 then _ else if b = 32 then _ else if true = true then _ else _) = _
              rw [if_neg h10, if_neg h35, if_neg h32, if_pos rfl]
            rw [e, hl]
            rfl
          | false =>
            obtain ⟨p, ps, hp, hl⟩ := ih n ws (cur ++ [b]) false hv (fun h => by cases h)
            refine ⟨b :: p, ps, hpc p ps hp, ?_⟩
            have e : lex n ws cur false (b :: l) = lex n ws (cur ++ [b]) false l := by
              show (if b = 10 then _ else if b = 35 then _ else if b = 32 then _ else if false = true then _ else _) = _
              rw [if_neg h10, if_neg h35, if_neg h32, if_neg (by simp)]
            rw [e, hl]
            have e1 : wordsOn ws cur false (b :: p) = wordsOn ws (cur ++ [b]) false p := by
              unfold wordsOn
              rw [if_neg (by simp), if_neg (by simp)]
              have : ahead (b :: p) = b :: ahead p := by simp [ahead, h35]
              rw [this, fieldsGo_more _ _ _ hs0]
            rw [e1]
theorem lex_is (l : List UInt8) (h : l.all okb = true) : lex 1 [] [] false l = linesP 1 (pieces 10 l) := by
  obtain ⟨p, ps, hp, hl⟩ := lex_pieces l 1 [] [] false h (fun h => by cases h)
  rw [hl, hp]
  show _ = emit 1 (wordsL p) ++ linesP (1 + 1) ps
  have e2 : wordsOn [] [] false p = wordsL p := by unfold wordsOn wordsL; rw [ahead_cut]; rfl
  rw [e2]

/-! Steps of the reference's reading. -/
theorem lex_nl (n : Nat) (ws : List (List UInt8)) (cur : List UInt8) (off : Bool) (l : List UInt8) : lex n ws cur off (10 :: l) = emit n (close ws cur) ++ lex (n + 1) [] [] false l := by
  show (if (10 : UInt8) = 10 then _ else _) = _
  rw [if_pos rfl]
theorem lex_hash (n : Nat) (ws : List (List UInt8)) (cur : List UInt8) (off : Bool) (l : List UInt8) : lex n ws cur off (35 :: l) = lex n (close ws cur) [] true l := by
  show (if (35 : UInt8) = 10 then _ else if (35 : UInt8) = 35 then _ else _) = _
  rw [if_neg (by decide), if_pos rfl]
theorem lex_sp (n : Nat) (ws : List (List UInt8)) (cur : List UInt8) (off : Bool) (l : List UInt8) : lex n ws cur off (32 :: l) = lex n (close ws cur) [] off l := by
  show (if (32 : UInt8) = 10 then _ else if (32 : UInt8) = 35 then _ else if (32 : UInt8) = 32 then _ else _) = _
  rw [if_neg (by decide), if_neg (by decide), if_pos rfl]
theorem lex_off (n : Nat) (ws : List (List UInt8)) (cur : List UInt8) (b : UInt8) (l : List UInt8) (h10 : b ≠ 10) (h35 : b ≠ 35) (h32 : b ≠ 32) : lex n ws cur true (b :: l) = lex n ws cur true l := by
  show (if b = 10 then _ else if b = 35 then _ else if b = 32 then _ else if true = true then _ else _) = _
  rw [if_neg h10, if_neg h35, if_neg h32, if_pos rfl]
theorem lex_on (n : Nat) (ws : List (List UInt8)) (cur : List UInt8) (b : UInt8) (l : List UInt8) (h10 : b ≠ 10) (h35 : b ≠ 35) (h32 : b ≠ 32) : lex n ws cur false (b :: l) = lex n ws (cur ++ [b]) false l := by
  show (if b = 10 then _ else if b = 35 then _ else if b = 32 then _ else if false = true then _ else _) = _
  rw [if_neg h10, if_neg h35, if_neg h32, if_neg (by simp)]

/-! Put together again. -/
def Clean (w : List UInt8) : Prop := w ≠ [] ∧ ∀ b ∈ w, 33 ≤ b.toNat ∧ b.toNat ≤ 126 ∧ b ≠ 35
def Good : Nat → List Line → Prop
  | _, [] => True
  | m, (n, ws) :: ls => m ≤ n ∧ ws ≠ [] ∧ (∀ w ∈ ws, Clean w) ∧ Good (n + 1) ls
theorem Good.mono : ∀ {ls : List Line} {m m' : Nat}, Good m ls → m' ≤ m → Good m' ls
  | [], _, _, _, _ => trivial
  | (n, ws) :: ls, _, _, h, hm => ⟨Nat.le_trans hm h.1, h.2⟩
theorem emit_good {n m : Nat} {ws : List (List UInt8)} {ls : List Line} (h : ∀ w ∈ ws, Clean w) (hm : m ≤ n) (hl : Good (n + 1) ls) : Good m (emit n ws ++ ls) := by
  unfold emit
  split
  · exact hl.mono (by omega)
  · rename_i hne; exact ⟨hm, hne, h, hl⟩
theorem close_clean {ws : List (List UInt8)} {cur : List UInt8} (h : ∀ w ∈ ws, Clean w) (hc : cur = [] ∨ Clean cur) : ∀ w ∈ close ws cur, Clean w := by
  unfold close
  split
  · exact h
  · rename_i hne
    intro w hw
    rcases List.mem_append.1 hw with hw | hw
    · exact h w hw
    · rw [List.mem_singleton.1 hw]; exact hc.resolve_left hne
theorem clean_snoc {cur : List UInt8} {b : UInt8} (hc : cur = [] ∨ Clean cur) (hb : okb b = true) (h10 : b ≠ 10) (h35 : b ≠ 35) (h32 : b ≠ 32) : Clean (cur ++ [b]) := by
  refine ⟨by simp, fun c h => ?_⟩
  rcases List.mem_append.1 h with h | h
  · rcases hc with rfl | hc
    · cases h
    · exact hc.2 c h
  · rw [List.mem_singleton.1 h]
    unfold okb at hb
    rcases Bool.or_eq_true _ _ ▸ hb with hb | hb
    · exact absurd (by simpa using hb) h10
    · rw [Bool.and_eq_true, decide_eq_true_iff, decide_eq_true_iff] at hb
      have : b.toNat ≠ 32 := fun e => h32 (UInt8.toNat_inj.1 e)
      exact ⟨by omega, hb.2, h35⟩
theorem lex_good : ∀ (l : List UInt8) (n : Nat) (ws : List (List UInt8)) (cur : List UInt8) (off : Bool), l.all okb = true → (∀ w ∈ ws, Clean w) → (cur = [] ∨ Clean cur) → Good n (lex n ws cur off l) := by
  intro l
  induction l with
  | nil =>
    intro n ws cur off _ hw hc
    show Good n (emit n (close ws cur))
    have := emit_good (n := n) (m := n) (ls := []) (close_clean hw hc) (Nat.le_refl _) trivial
    rwa [List.append_nil] at this
  | cons b l ih =>
    intro n ws cur off hv hw hc
    rw [List.all_cons, Bool.and_eq_true] at hv
    obtain ⟨hb, hv⟩ := hv
    by_cases h10 : b = 10
    · subst h10; rw [lex_nl]
      exact emit_good (close_clean hw hc) (Nat.le_refl _) (ih _ _ _ _ hv (fun w h => by cases h) (.inl rfl))
    · by_cases h35 : b = 35
      · subst h35; rw [lex_hash]; exact ih _ _ _ _ hv (close_clean hw hc) (.inl rfl)
      · by_cases h32 : b = 32
        · subst h32; rw [lex_sp]; exact ih _ _ _ _ hv (close_clean hw hc) (.inl rfl)
        · cases off with
          | true => rw [lex_off _ _ _ _ _ h10 h35 h32]; exact ih _ _ _ _ hv hw hc
          | false => rw [lex_on _ _ _ _ _ h10 h35 h32]; exact ih _ _ _ _ hv hw (.inr (clean_snoc hc hb h10 h35 h32))

def joinL : Nat → List Line → List UInt8
  | _, [] => []
  | m, (n, ws) :: ls => List.replicate (n - m) 10 ++ (join 32 ws ++ joinL n ls)
def lastN : Nat → List Line → Nat
  | m, [] => m
  | _, (n, _) :: ls => lastN n ls
theorem join_snoc (c : UInt8) (x : List UInt8) : ∀ ws : List (List UInt8), join c (ws ++ [x]) = if ws = [] then x else join c ws ++ c :: x := by
  intro ws
  induction ws with
  | nil => rfl
  | cons w ws ih =>
    rw [if_neg (by simp)]
    cases ws with
    | nil => rfl
    | cons v ws =>
      rw [if_neg (by simp)] at ih
      show w ++ c :: join c (v :: ws ++ [x]) = (w ++ c :: join c (v :: ws)) ++ c :: x
      rw [ih]; simp
theorem joinL_snoc (n : Nat) (ws : List (List UInt8)) : ∀ (ls : List Line) (m : Nat), joinL m (ls ++ [(n, ws)]) = joinL m ls ++ (List.replicate (n - lastN m ls) 10 ++ join 32 ws) := by
  intro ls
  induction ls with
  | nil => intro m; show _ ++ (_ ++ []) = [] ++ _; rw [List.append_nil]; rfl
  | cons x ls ih =>
    intro m
    obtain ⟨k, us⟩ := x
    show _ ++ (_ ++ joinL k (ls ++ [(n, ws)])) = _
    rw [ih k]
    show _ = (_ ++ (_ ++ joinL k ls)) ++ (List.replicate (n - lastN k ls) 10 ++ join 32 ws)
    simp [List.append_assoc]
theorem lastN_snoc (n : Nat) (ws : List (List UInt8)) : ∀ (ls : List Line) (m : Nat), lastN m (ls ++ [(n, ws)]) = n := by
  intro ls
  induction ls with
  | nil => intro m; rfl
  | cons x ls ih => intro m; obtain ⟨k, us⟩ := x; exact ih k
/-- A line of lines that are good: its number is at or behind the last one's; its words are good. -/
theorem good_at : ∀ (ls : List Line) (m k : Nat) (n : Nat) (ws : List (List UInt8)), Good m ls → ls[k]? = some (n, ws) → lastN m (ls.take k) ≤ n ∧ ws ≠ [] ∧ ∀ w ∈ ws, Clean w := by
  intro ls
  induction ls with
  | nil => intro m k n ws _ h; simp at h
  | cons x ls ih =>
    intro m k n ws h hk
    obtain ⟨n', ws'⟩ := x
    obtain ⟨h1, h2, h3, h4⟩ := h
    cases k with
    | zero => simp at hk; obtain ⟨rfl, rfl⟩ := hk; exact ⟨h1, h2, h3⟩
    | succ k =>
      have := ih n' k n ws (h4.mono (by omega)) (by simpa using hk)
      exact this

/-! Reading it again. -/
theorem lex_word (n : Nat) (W : List (List UInt8)) : ∀ (w : List UInt8) (C t : List UInt8), (∀ b ∈ w, 33 ≤ b.toNat ∧ b.toNat ≤ 126 ∧ b ≠ 35) → lex n W C false (w ++ t) = lex n W (C ++ w) false t := by
  intro w
  induction w with
  | nil => intro C t _; simp
  | cons b w ih =>
    intro C t h
    obtain ⟨h1, h2, h3⟩ := h b (by simp)
    have h10 : b ≠ 10 := fun e => by subst e; exact absurd h1 (by decide)
    have h32 : b ≠ 32 := fun e => by subst e; exact absurd h1 (by decide)
    rw [List.cons_append, lex_on _ _ _ _ _ h10 h3 h32, ih _ _ (fun c hc => h c (by simp [hc]))]
    simp
theorem lex_words (n : Nat) : ∀ (ws : List (List UInt8)) (W : List (List UInt8)), ws ≠ [] → (∀ w ∈ ws, Clean w) → ∃ W' C, close W' C = W ++ ws ∧ ∀ t, lex n W [] false (join 32 ws ++ t) = lex n W' C false t := by
  intro ws
  induction ws with
  | nil => intro W h; exact absurd rfl h
  | cons w ws ih =>
    intro W _ h
    have hw := h w (by simp)
    cases ws with
    | nil =>
      refine ⟨W, w, by unfold close; rw [if_neg hw.1], fun t => ?_⟩
      show lex n W [] false (w ++ t) = _
      rw [lex_word _ _ _ _ _ hw.2]; rfl
    | cons v ws =>
      obtain ⟨W', C, e, ht⟩ := ih (W ++ [w]) (by simp) (fun x hx => h x (by simp [hx]))
      refine ⟨W', C, by rw [e]; simp, fun t => ?_⟩
      show lex n W [] false ((w ++ 32 :: join 32 (v :: ws)) ++ t) = _
      rw [List.append_assoc, lex_word _ _ _ _ _ hw.2, List.cons_append, lex_sp, List.nil_append]
      have : close W w = W ++ [w] := by unfold close; rw [if_neg hw.1]
      rw [this]
      exact ht t
theorem lex_lines : ∀ (k n : Nat) (t : List UInt8), lex n [] [] false (List.replicate k 10 ++ t) = lex (n + k) [] [] false t := by
  intro k
  induction k with
  | zero => intro n t; simp
  | succ k ih =>
    intro n t
    rw [List.replicate_succ, List.cons_append, lex_nl, ih, show n + 1 + k = n + (k + 1) by omega]
    rfl
theorem lex_join : ∀ (ls : List Line) (m : Nat), Good m ls → lex m [] [] false (joinL m ls) = ls ∧ (∀ (n : Nat) (W : List (List UInt8)) (C : List UInt8), n + 1 = m → lex n W C false (joinL n ls) = emit n (close W C) ++ ls) := by
  intro ls
  induction ls with
  | nil => intro m _; exact ⟨rfl, fun n W C _ => by show emit n (close W C) = _; simp⟩
  | cons x ls ih =>
    intro m h
    obtain ⟨k, ws⟩ := x
    obtain ⟨h1, h2, h3, h4⟩ := h
    have main : lex m [] [] false (joinL m ((k, ws) :: ls)) = (k, ws) :: ls := by
      show lex m [] [] false (List.replicate (k - m) 10 ++ (join 32 ws ++ joinL k ls)) = _
      rw [lex_lines, show m + (k - m) = k by omega]
      obtain ⟨W', C, e, ht⟩ := lex_words k ws [] h2 h3
      rw [ht, (ih (k + 1) h4).2 k W' C rfl, e]
      unfold emit
      rw [if_neg (by simpa using h2)]
      rfl
    refine ⟨main, fun n W C hn => ?_⟩
    subst hn
    have e : joinL n ((k, ws) :: ls) = 10 :: joinL (n + 1) ((k, ws) :: ls) := by
      show List.replicate (k - n) 10 ++ _ = 10 :: (List.replicate (k - (n + 1)) 10 ++ _)
      rw [show k - n = (k - (n + 1)) + 1 by omega, List.replicate_succ]
      rfl
    rw [e, lex_nl, main]
theorem joinL_ok : ∀ (ls : List Line) (m : Nat), Good m ls → (joinL m ls).all okb = true := by
  have hj : ∀ ws : List (List UInt8), (∀ w ∈ ws, Clean w) → (join 32 ws).all okb = true := by
    intro ws
    induction ws with
    | nil => intro _; rfl
    | cons w ws ih =>
      intro h
      have hw : w.all okb = true := by
        rw [List.all_eq_true]
        intro b hb
        have := (h w (by simp)).2 b hb
        unfold okb
        rw [Bool.or_eq_true, Bool.and_eq_true, decide_eq_true_iff, decide_eq_true_iff]
        exact .inr ⟨by omega, by omega⟩
      cases ws with
      | nil => exact hw
      | cons v ws =>
        show (w ++ 32 :: join 32 (v :: ws)).all okb = true
        rw [List.all_append, List.all_cons, hw, ih (fun x hx => h x (by simp [hx]))]
        decide
  intro ls
  induction ls with
  | nil => intro m _; rfl
  | cons x ls ih =>
    intro m h
    obtain ⟨k, ws⟩ := x
    obtain ⟨h1, h2, h3, h4⟩ := h
    show (List.replicate (k - m) 10 ++ (join 32 ws ++ joinL k ls)).all okb = true
    rw [List.all_append, List.all_append, hj ws h3, ih k (h4.mono (by omega))]
    rw [Bool.and_true, Bool.and_true, List.all_eq_true]
    intro b hb
    rw [List.eq_of_mem_replicate hb]; decide
def mass (ws : List (List UInt8)) : Nat := (ws.map fun w => w.length + 1).sum
theorem mass_snoc (ws : List (List UInt8)) (w : List UInt8) : mass (ws ++ [w]) = mass ws + (w.length + 1) := by
  unfold mass; simp
theorem join_len : ∀ ws : List (List UInt8), (join 32 ws).length ≤ mass ws - 1 := by
  intro ws
  induction ws with
  | nil => simp [join]
  | cons w ws ih =>
    cases ws with
    | nil => simp [join, mass]
    | cons v ws =>
      show (w ++ 32 :: join 32 (v :: ws)).length ≤ _
      have e : mass (w :: v :: ws) = w.length + 1 + mass (v :: ws) := by simp [mass]
      have : 1 ≤ mass (v :: ws) := by simp [mass]; omega
      rw [e]; simp; omega
theorem close_mass (ws : List (List UInt8)) (cur : List UInt8) : mass (close ws cur) ≤ mass ws + cur.length + 1 ∧ mass (close ws cur) - 1 ≤ mass ws + cur.length := by
  unfold close
  split
  · omega
  · rw [mass_snoc]; omega
theorem lex_len : ∀ (l : List UInt8) (n : Nat) (ws : List (List UInt8)) (cur : List UInt8) (off : Bool) (m : Nat), m ≤ n → (joinL m (lex n ws cur off l)).length ≤ (n - m) + mass ws + cur.length + l.length := by
  intro l
  induction l with
  | nil =>
    intro n ws cur off m hm
    show (joinL m (emit n (close ws cur))).length ≤ _
    unfold emit
    split
    · simp [joinL]
    · have h1 := join_len (close ws cur)
      have h2 := (close_mass ws cur).2
      show (List.replicate (n - m) 10 ++ (join 32 (close ws cur) ++ [])).length ≤ _
      simp; omega
  | cons b l ih =>
    intro n ws cur off m hm
    have hc := close_mass ws cur
    by_cases h10 : b = 10
    · subst h10; rw [lex_nl]
      unfold emit
      split
      · have := ih (n + 1) [] [] false m (by omega)
        simp [mass] at this ⊢; omega
      · have := ih (n + 1) [] [] false n (by omega)
        have h1 := join_len (close ws cur)
        show (List.replicate (n - m) 10 ++ (join 32 (close ws cur) ++ joinL n (lex (n + 1) [] [] false l))).length ≤ _
        simp [mass] at this ⊢
        have := hc.2
        simp [mass] at h1 this
        omega
    · by_cases h35 : b = 35
      · subst h35; rw [lex_hash]
        have := ih n (close ws cur) [] true m hm
        simp at this ⊢; omega
      · by_cases h32 : b = 32
        · subst h32; rw [lex_sp]
          have := ih n (close ws cur) [] off m hm
          simp at this ⊢; omega
        · cases off with
          | true => rw [lex_off _ _ _ _ _ h10 h35 h32]; have := ih n ws cur true m hm; simp at this ⊢; omega
          | false => rw [lex_on _ _ _ _ _ h10 h35 h32]; have := ih n ws (cur ++ [b]) false m hm; simp at this ⊢; omega
/-- What TextAgain asks, of lists. -/
theorem again {l : List UInt8} (h : errOf l = 0) : Good 1 (linesOf l) ∧ (joinL 1 (linesOf l)).length ≤ l.length ∧ errOf (joinL 1 (linesOf l)) = 0 ∧ linesOf (joinL 1 (linesOf l)) = linesOf l := by
  obtain ⟨h1, h2⟩ := errOf_zero h
  have e := (errOf_ok h1 h2).2.2
  have hg : Good 1 (linesOf l) := by rw [e]; exact lex_good l 1 [] [] false h2 (fun w h => by cases h) (.inl rfl)
  have hl : (joinL 1 (linesOf l)).length ≤ l.length := by
    rw [e]
    have := lex_len l 1 [] [] false 1 (Nat.le_refl _)
    simpa [mass] using this
  have hk := errOf_ok (l := joinL 1 (linesOf l)) (by omega) (joinL_ok _ _ hg)
  exact ⟨hg, hl, hk.1, by rw [hk.2.2]; exact (lex_join _ _ hg).1⟩
end Go.TxtM
