/- Plain mathematics of layer 3: the texts of addresses and networks, as lists of bytes. Nothing of any program. -/
import Derived.Lib.ItoaNum
import Derived.Lib.ParseIntBCases
import Derived.Lib.SplitLaws
set_option linter.unusedVariables false
set_option linter.unusedSimpArgs false
namespace Go.AdrM
open Go.Lib

/-- The value of digits, from an accumulator. -/
def dval : Nat → List UInt8 → Nat
  | a, [] => a
  | a, c :: r => dval (10 * a + (c.toNat - 48)) r
def isDig (c : UInt8) : Bool := 48 ≤ c.toNat && c.toNat ≤ 57
theorem dval_append (l r : List UInt8) : ∀ a, dval a (l ++ r) = dval (dval a l) r := by
  induction l with
  | nil => intro a; rfl
  | cons c l ih => intro a; exact ih _
theorem dig_toNat (u : Nat) (h : u < 10) : (UInt8.ofNat (48 + u)).toNat = 48 + u := by
  rw [UInt8.toNat_ofNat']; omega
theorem dig_isDig (u : Nat) (h : u < 10) : isDig (UInt8.ofNat (48 + u)) = true := by
  unfold isDig; rw [dig_toNat u h, Bool.and_eq_true, decide_eq_true_iff, decide_eq_true_iff]; omega
theorem decDigits_val : ∀ n, dval 0 (decDigits n) = n := by
  intro n
  induction n using Nat.strongRecOn with
  | ind n ih =>
    by_cases h : n < 10
    · rw [decDigits, dif_pos h]
      show 10 * 0 + ((UInt8.ofNat (48 + n)).toNat - 48) = n
      rw [dig_toNat n h]; omega
    · rw [decDigits, dif_neg h, dval_append, ih (n / 10) (by omega)]
      show 10 * (n / 10) + ((UInt8.ofNat (48 + n % 10)).toNat - 48) = n
      rw [dig_toNat (n % 10) (by omega)]; omega
theorem decDigits_inj {a b : Nat} (h : decDigits a = decDigits b) : a = b := by
  rw [← decDigits_val a, h, decDigits_val]
theorem decDigits_dig : ∀ n, ∀ c ∈ decDigits n, isDig c = true := by
  intro n
  induction n using Nat.strongRecOn with
  | ind n ih =>
    by_cases h : n < 10
    · rw [decDigits, dif_pos h]
      intro c hc
      rw [List.mem_singleton.1 hc]
      exact dig_isDig n h
    · rw [decDigits, dif_neg h]
      intro c hc
      rcases List.mem_append.1 hc with hc | hc
      · exact ih (n / 10) (by omega) c hc
      · rw [List.mem_singleton.1 hc]
        exact dig_isDig _ (by omega)
theorem decDigits_ne (n : Nat) : decDigits n ≠ [] := by
  rw [decDigits]; split <;> simp
theorem decDigits_len_le : ∀ (k n : Nat), n < 10 ^ (k + 1) → (decDigits n).length ≤ k + 1 := by
  intro k
  induction k with
  | zero => intro n h; rw [decDigits, dif_pos (by omega)]; simp
  | succ k ih =>
    intro n h
    rw [decDigits]
    split
    · simp
    · rename_i h10
      have := ih (n / 10) (by rw [Nat.pow_succ] at h; omega)
      simp; omega
theorem decDigits_len_ge : ∀ (k n : Nat), (decDigits n).length ≤ k → n < 10 ^ k := by
  intro k
  induction k with
  | zero => intro n h; have := decDigits_ne n; cases hd : decDigits n <;> simp_all
  | succ k ih =>
    intro n h
    rw [decDigits] at h
    split at h
    · rename_i h10
      have : 10 ^ (k + 1) = 10 ^ k * 10 := Nat.pow_succ ..
      have := Nat.pow_pos (n := k) (show 0 < 10 by omega)
      omega
    · have h2 : (decDigits (n / 10)).length ≤ k := by simpa using h
      have := ih _ h2
      rw [Nat.pow_succ]; omega

/-- The number whose text is l: none, if there is none below 10^9. (What the reference reads.) -/
def numS (l : List UInt8) : Option Nat := if l.all isDig = true ∧ decDigits (dval 0 l) = l then some (dval 0 l) else none
theorem numS_some {l : List UInt8} {n : Nat} : numS l = some n ↔ l = decDigits n := by
  unfold numS
  constructor
  · intro h
    split at h
    · rename_i hh; cases h; exact hh.2.symm
    · cases h
  · rintro rfl
    rw [if_pos ⟨by rw [List.all_eq_true]; exact decDigits_dig n, by rw [decDigits_val]⟩, decDigits_val]
theorem numS_dec (n : Nat) : numS (decDigits n) = some n := numS_some.2 rfl
theorem numS_none {l : List UInt8} (h : ∀ n, l ≠ decDigits n) : numS l = none := by
  cases hn : numS l with
  | none => rfl
  | some n => exact absurd (numS_some.1 hn) (h n)

/-- The number from 0 to 255 whose text is l. -/
def byteS (l : List UInt8) : Option Nat :=
  match numS l with
  | some n => if n ≤ 255 then some n else none
  | none => none
theorem byteS_some {l : List UInt8} {n : Nat} : byteS l = some n ↔ l = decDigits n ∧ n ≤ 255 := by
  unfold byteS
  constructor
  · intro h
    split at h
    · rename_i m hm
      split at h
      · cases h; exact ⟨numS_some.1 hm, by assumption⟩
      · cases h
    · cases h
  · rintro ⟨rfl, h⟩
    rw [numS_dec]; simp [h]
theorem byteS_dec {n : Nat} (h : n ≤ 255) : byteS (decDigits n) = some n := byteS_some.2 ⟨rfl, h⟩
theorem byteS_le {l : List UInt8} {n : Nat} (h : byteS l = some n) : n ≤ 255 := (byteS_some.1 h).2

/-! What ParseUint at 8 bits makes of it. -/
theorem parse_dec_fin : ∀ n : Fin 256, parseUintB 8 (decDigits n.val) = .ok n.val := by decide +kernel
theorem parse_dec {n : Nat} (h : n ≤ 255) : parseUintB 8 (decDigits n) = .ok n := parse_dec_fin ⟨n, by omega⟩
theorem byteS_of_parse_ok {l : List UInt8} {u : Nat} (h : parseUintB 8 l = .ok u) : byteS l = if decDigits u = l then some u else none := by
  have hu : u ≤ 255 := by have := parseUintB_le h; omega
  split
  · rename_i e; subst e; exact byteS_dec hu
  · rename_i e
    cases hb : byteS l with
    | none => rfl
    | some n =>
      obtain ⟨e1, e2⟩ := byteS_some.1 hb
      subst e1
      rw [parse_dec e2] at h
      cases h
      exact absurd rfl e
theorem byteS_of_parse_not {l : List UInt8} (h : ∀ u, parseUintB 8 l ≠ .ok u) : byteS l = none := by
  cases hb : byteS l with
  | none => rfl
  | some n =>
    obtain ⟨e1, e2⟩ := byteS_some.1 hb
    subst e1
    exact absurd (parse_dec e2) (h n)

/-! Splitting at one byte. -/
def pieces (c : UInt8) : List UInt8 → List (List UInt8)
  | [] => [[]]
  | b :: l => if b = c then [] :: pieces c l else
    match pieces c l with
    | p :: ps => (b :: p) :: ps
    | [] => [[b]]
theorem pieces_ne (c : UInt8) (l : List UInt8) : pieces c l ≠ [] := by
  cases l with
  | nil => simp [pieces]
  | cons b l =>
    unfold pieces
    split
    · simp
    · split <;> simp
theorem pieces_hit (c : UInt8) : ∀ (p r : List UInt8), c ∉ p → pieces c (p ++ c :: r) = p :: pieces c r := by
  intro p
  induction p with
  | nil => intro r _; simp [pieces]
  | cons b p ih =>
    intro r h
    have hb : b ≠ c := fun e => h (by simp [e])
    have hp : c ∉ p := fun e => h (by simp [e])
    show (if b = c then _ else _) = _
    rw [if_neg hb]
    show (match pieces c (p ++ c :: r) with | p :: ps => (b :: p) :: ps | [] => [[b]]) = _
    rw [ih r hp]
theorem pieces_miss (c : UInt8) : ∀ p : List UInt8, c ∉ p → pieces c p = [p] := by
  intro p
  induction p with
  | nil => intro _; rfl
  | cons b p ih =>
    intro h
    have hb : b ≠ c := fun e => h (by simp [e])
    have hp : c ∉ p := fun e => h (by simp [e])
    show (if b = c then _ else _) = _
    rw [if_neg hb, ih hp]
theorem pieces_no (c : UInt8) : ∀ (l : List UInt8), ∀ p ∈ pieces c l, c ∉ p := by
  intro l
  induction l with
  | nil => intro p hp; simp [pieces] at hp; simp [hp]
  | cons b l ih =>
    intro p hp
    unfold pieces at hp
    split at hp
    · rcases List.mem_cons.1 hp with rfl | hp
      · simp
      · exact ih p hp
    · rename_i hb
      split at hp
      · rename_i q qs hq
        rcases List.mem_cons.1 hp with rfl | hp
        · have := ih q (by rw [hq]; simp)
          simp [this]; exact fun e => hb e.symm
        · exact ih p (by rw [hq]; simp [hp])
      · rename_i hq; exact absurd hq (pieces_ne c l)
def join (c : UInt8) : List (List UInt8) → List UInt8
  | [] => []
  | [p] => p
  | p :: ps => p ++ c :: join c ps
theorem join_pieces (c : UInt8) : ∀ l, join c (pieces c l) = l := by
  intro l
  induction l with
  | nil => rfl
  | cons b l ih =>
    unfold pieces
    split
    · rename_i e
      subst e
      cases hp : pieces b l with
      | nil => exact absurd hp (pieces_ne b l)
      | cons p ps => rw [hp] at ih; simp [join, ih]
    · split
      · rename_i p ps hp
        rw [hp] at ih
        cases ps with
        | nil => simpa [join] using ih
        | cons q qs => simpa [join] using ih
      · rename_i hp; exact absurd hp (pieces_ne c l)
theorem pieces_count (c : UInt8) : ∀ l, (pieces c l).length = l.count c + 1 := by
  intro l
  induction l with
  | nil => rfl
  | cons b l ih =>
    unfold pieces
    split
    · rename_i e; subst e; simp [ih]
    · rename_i e
      split
      · rename_i p ps hp
        rw [hp] at ih
        rw [List.count_cons_of_ne (by simpa using e)]
        simpa using ih
      · rename_i hp; exact absurd hp (pieces_ne c l)

/-! Addresses. -/
def foldB : List Nat → Nat
  | [a, b, c, d] => ((a * 256 + b) * 256 + c) * 256 + d
  | _ => 0
/-- The address whose text is l. -/
def parseS (l : List UInt8) : Option Nat :=
  match pieces 46 l with
  | [p, q, r, s] => match byteS p, byteS q, byteS r, byteS s with
    | some a, some b, some c, some d => some (((a * 256 + b) * 256 + c) * 256 + d)
    | _, _, _, _ => none
  | _ => none
def b3 (a : Nat) : Nat := a / 16777216
def b2 (a : Nat) : Nat := a / 65536 % 256
def b1 (a : Nat) : Nat := a / 256 % 256
def b0 (a : Nat) : Nat := a % 256
/-- Its text. -/
def printS (a : Nat) : List UInt8 := decDigits (b3 a) ++ (46 :: (decDigits (b2 a) ++ (46 :: (decDigits (b1 a) ++ (46 :: decDigits (b0 a))))))
theorem no_dot (n : Nat) (c : UInt8) (h : isDig c = false) : c ∉ decDigits n := fun hc => by
  rw [decDigits_dig n c hc] at h; cases h
theorem pieces_print (a : Nat) : pieces 46 (printS a) = [decDigits (b3 a), decDigits (b2 a), decDigits (b1 a), decDigits (b0 a)] := by
  unfold printS
  rw [pieces_hit _ _ _ (no_dot _ _ (by decide)), pieces_hit _ _ _ (no_dot _ _ (by decide)), pieces_hit _ _ _ (no_dot _ _ (by decide)), pieces_miss _ _ (no_dot _ _ (by decide))]
theorem parse_print {a : Nat} (h : a < 4294967296) : parseS (printS a) = some a := by
  unfold parseS
  rw [pieces_print]
  simp only []
  rw [byteS_dec (by unfold b3; omega), byteS_dec (by unfold b2; omega), byteS_dec (by unfold b1; omega), byteS_dec (by unfold b0; omega)]
  simp only [b3, b2, b1, b0, Option.some.injEq]
  omega
theorem parseS_lt {l : List UInt8} {a : Nat} (h : parseS l = some a) : a < 4294967296 := by
  unfold parseS at h
  split at h
  · split at h
    · rename_i h1 h2 h3 h4
      have := byteS_le h1; have := byteS_le h2; have := byteS_le h3; have := byteS_le h4
      cases h; omega
    · cases h
  · cases h
theorem print_parse {l : List UInt8} {a : Nat} (h : parseS l = some a) : printS a = l := by
  unfold parseS at h
  split at h
  · rename_i p q r s hp
    split at h
    · rename_i a1 a2 a3 a4 h1 h2 h3 h4
      obtain ⟨e1, l1⟩ := byteS_some.1 h1
      obtain ⟨e2, l2⟩ := byteS_some.1 h2
      obtain ⟨e3, l3⟩ := byteS_some.1 h3
      obtain ⟨e4, l4⟩ := byteS_some.1 h4
      cases h
      have hj := join_pieces 46 l
      rw [hp] at hj
      rw [← hj]
      have x3 : b3 (((a1 * 256 + a2) * 256 + a3) * 256 + a4) = a1 := by unfold b3; omega
      have x2 : b2 (((a1 * 256 + a2) * 256 + a3) * 256 + a4) = a2 := by unfold b2; omega
      have x1 : b1 (((a1 * 256 + a2) * 256 + a3) * 256 + a4) = a3 := by unfold b1; omega
      have x0 : b0 (((a1 * 256 + a2) * 256 + a3) * 256 + a4) = a4 := by unfold b0; omega
      unfold printS
      rw [x3, x2, x1, x0, e1, e2, e3, e4]
      simp [join]
    · cases h
  · cases h
theorem print_len (a : Nat) (h : a < 4294967296) : (printS a).length ≤ 15 := by
  have h3 := decDigits_len_le 2 (b3 a) (by unfold b3; omega)
  have h2 := decDigits_len_le 2 (b2 a) (by unfold b2; omega)
  have h1 := decDigits_len_le 2 (b1 a) (by unfold b1; omega)
  have h0 := decDigits_len_le 2 (b0 a) (by unfold b0; omega)
  unfold printS; simp; omega

/-! Networks. -/
/-- A network of Bits n and Addr a is valid. -/
def validS (a : Nat) (n : Int) : Bool := decide (0 ≤ n ∧ n ≤ 32) && a % 2 ^ (32 - n.toNat) == 0
theorem validS_mk {a : Nat} {n : Int} : validS a n = true ↔ (0 ≤ n ∧ n ≤ 32) ∧ a % 2 ^ (32 - n.toNat) = 0 := by
  unfold validS; simp
def anyL : List UInt8 := [97, 110, 121]
/-- Its text. -/
def showS (a : Nat) (n : Int) : Option (List UInt8) :=
  if validS a n = true then some (if n = 0 then anyL else printS a ++ (47 :: decDigits n.toNat)) else none
/-- It contains x. -/
def hasS (a : Nat) (n : Int) (x : Nat) : Bool := validS a n && x / 2 ^ (32 - n.toNat) == a / 2 ^ (32 - n.toNat)
/-- The network whose text is l, of which the first byte 47 stands behind p, and r behind it. -/
def netP (p r : List UInt8) : Option (Nat × Nat) :=
  match parseS p, byteS r with
  | some a, some n => if n ≠ 0 ∧ validS a (n : Int) = true then some (a, n) else none
  | _, _ => none
def left (l : List UInt8) : List UInt8 := l.takeWhile (· != 47)
def right (l : List UInt8) : List UInt8 := (l.dropWhile (· != 47)).drop 1
def netS (l : List UInt8) : Option (Nat × Nat) := if l = anyL then some (0, 0) else netP (left l) (right l)

theorem takeWhile_hit (p r : List UInt8) (h : (47 : UInt8) ∉ p) : (p ++ 47 :: r).takeWhile (· != 47) = p ∧ (p ++ 47 :: r).dropWhile (· != 47) = 47 :: r := by
  induction p with
  | nil => simp
  | cons b p ih =>
    have hb : b ≠ 47 := fun e => h (by simp [e])
    obtain ⟨h1, h2⟩ := ih (fun e => h (by simp [e]))
    simp [hb, h1, h2]
theorem takeWhile_miss (p : List UInt8) (h : (47 : UInt8) ∉ p) : p.takeWhile (· != 47) = p ∧ p.dropWhile (· != 47) = [] := by
  induction p with
  | nil => simp
  | cons b p ih =>
    have hb : b ≠ 47 := fun e => h (by simp [e])
    obtain ⟨h1, h2⟩ := ih (fun e => h (by simp [e]))
    simp [hb, h1, h2]
theorem split_at (l : List UInt8) : (47 : UInt8) ∉ left l ∧ (l = left l ∧ right l = [] ∧ (47 : UInt8) ∉ l ∨ l = left l ++ 47 :: right l) := by
  induction l with
  | nil => simp [left, right]
  | cons b l ih =>
    by_cases hb : b = 47
    · subst hb; simp [left, right]
    · obtain ⟨h1, h2⟩ := ih
      have e1 : left (b :: l) = b :: left l := by simp [left, hb]
      have e2 : right (b :: l) = right l := by simp [right, hb]
      rw [e1, e2]
      refine ⟨by rw [List.mem_cons]; rintro (e | e); exact hb e.symm; exact h1 e, ?_⟩
      rcases h2 with ⟨h3, h4, h5⟩ | h3
      · exact .inl ⟨by rw [← h3], h4, by rw [List.mem_cons]; rintro (e | e); exact hb e.symm; exact h5 e⟩
      · exact .inr (by rw [List.cons_append, ← h3])
theorem byteS_nil : byteS [] = none := by
  cases h : byteS [] with
  | none => rfl
  | some n => exact absurd (byteS_some.1 h).1.symm (decDigits_ne n)
theorem netP_some {p r : List UInt8} {a n : Nat} (h : netP p r = some (a, n)) : parseS p = some a ∧ byteS r = some n ∧ n ≠ 0 ∧ validS a (n : Int) = true := by
  unfold netP at h
  split at h
  · split at h
    · rename_i h1 h2 h3; cases h; exact ⟨h1, h2, h3⟩
    · cases h
  · cases h
theorem print_noslash (a : Nat) : (47 : UInt8) ∉ printS a := by
  have h := fun n => no_dot n 47 (by decide)
  unfold printS; simp [h]
theorem net_show {a : Nat} {n : Int} {t : List UInt8} (ha : a < 4294967296) (h : showS a n = some t) : netS t = some (a, n.toNat) := by
  unfold showS at h
  split at h
  · rename_i hv
    have hv' := validS_mk.1 hv
    cases h
    by_cases h0 : n = 0
    · subst h0
      have : a = 0 := by have := hv'.2; simp at this; omega
      subst this
      simp [netS]
    · rw [if_neg h0]
      unfold netS
      rw [if_neg (by
        intro e
        have hm : (47 : UInt8) ∈ anyL := by rw [← e]; simp
        simp [anyL] at hm)]
      obtain ⟨h1, h2⟩ := takeWhile_hit (printS a) (decDigits n.toNat) (print_noslash a)
      have e1 : left (printS a ++ 47 :: decDigits n.toNat) = printS a := h1
      have e2 : right (printS a ++ 47 :: decDigits n.toNat) = decDigits n.toNat := by unfold right; rw [h2]; rfl
      rw [e1, e2]
      unfold netP
      rw [parse_print ha, byteS_dec (by omega)]
      have hn : ((n.toNat : Nat) : Int) = n := by omega
      simp only [hn]
      rw [if_pos ⟨by omega, hv⟩]
  · cases h
theorem show_net {l : List UInt8} {a n : Nat} (h : netS l = some (a, n)) : showS a (n : Int) = some l ∧ a < 4294967296 ∧ n ≤ 32 := by
  unfold netS at h
  split at h
  · rename_i e
    cases h; subst e
    exact ⟨by decide, by omega, by omega⟩
  · obtain ⟨h1, h2, h3, h4⟩ := netP_some h
    have hv := validS_mk.1 h4
    refine ⟨?_, parseS_lt h1, by omega⟩
    unfold showS
    rw [if_pos h4, if_neg (by omega)]
    rcases (split_at l).2 with ⟨_, hr, _⟩ | hl
    · rw [hr, byteS_nil] at h2; cases h2
    · rw [print_parse h1]
      have := (byteS_some.1 h2).1
      rw [show ((n : Int)).toNat = n by simp, ← this, ← hl]

/-! Halves. -/
theorem pow_step (n : Nat) (h : n ≤ 31) : 2 ^ (32 - n) = 2 * 2 ^ (31 - n) := by
  rw [show 32 - n = (31 - n) + 1 by omega, Nat.pow_succ]; omega

end Go.AdrM
