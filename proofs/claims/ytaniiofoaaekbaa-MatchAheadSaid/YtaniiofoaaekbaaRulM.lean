/- Plain mathematics of layer 12: rules, their lines, what lines compile to; printed rules compile unchanged. Nothing of any program. -/
import Derived.Test.YtaniiofoaaekbaaTxtM
import Derived.Test.YtaniiofoaaekbaaTxtN
set_option linter.unusedVariables false
set_option linter.unusedSimpArgs false
namespace Go.RulM
open Go.Lib Go.AdrM
open Go.TxtM (Line okN valN okN_iff valN_yes valN_no top errOf lineOf linesOf lex okb emit close)

/-- A rule, by its ten cells. -/
structure R where
  acc : Bool
  pr : Nat
  sa : Nat
  sb : Int
  da : Nat
  db : Int
  sl : Nat
  sh : Nat
  dl : Nat
  dh : Nat
deriving DecidableEq
/-- Its cells are values of their types. -/
structure R.Ok (r : R) : Prop where
  pr : r.pr < 256
  sa : r.sa < 4294967296
  sb : -9223372036854775808 ≤ r.sb ∧ r.sb ≤ 9223372036854775807
  da : r.da < 4294967296
  db : -9223372036854775808 ≤ r.db ∧ r.db ≤ 9223372036854775807
  sl : r.sl < 65536
  sh : r.sh < 65536
  dl : r.dl < 65536
  dh : r.dh < 65536

def icmpL : List UInt8 := [105, 99, 109, 112]
def tcpL : List UInt8 := [116, 99, 112]
def udpL : List UInt8 := [117, 100, 112]
def acceptL : List UInt8 := [97, 99, 99, 101, 112, 116]
def dropL : List UInt8 := [100, 114, 111, 112]
/-- The word of a protocol; nothing: it has none. -/
def wordS (p : Nat) : List UInt8 := if p = 0 then anyL else if p = 1 then icmpL else if p = 6 then tcpL else if p = 17 then udpL else []
def known (p : Nat) : Bool := p == 0 || p == 1 || p == 6 || p == 17
theorem known_iff (p : Nat) : known p = true ↔ p = 0 ∨ p = 1 ∨ p = 6 ∨ p = 17 := by unfold known; simp [or_assoc]
theorem known_word (p : Nat) : (wordS p == []) = !known p := by
  unfold wordS known
  by_cases h0 : p = 0
  · subst h0; rfl
  · by_cases h1 : p = 1
    · subst h1; rfl
    · by_cases h6 : p = 6
      · subst h6; rfl
      · by_cases h17 : p = 17
        · subst h17; rfl
        · simp [h0, h1, h6, h17]
def spanS (a b : Nat) : List UInt8 := if a = 0 ∧ b = 65535 then anyL else if a = b then decDigits a else decDigits a ++ 45 :: decDigits b
def netL (a : Nat) (n : Int) : List UInt8 := if n = 0 then anyL else printS a ++ (47 :: decDigits n.toNat)
theorem show_yes {a : Nat} {n : Int} (h : validS a n = true) : showS a n = some (netL a n) := by unfold showS; rw [if_pos h]; rfl
theorem show_no {a : Nat} {n : Int} (h : validS a n = false) : showS a n = none := by unfold showS; rw [h]; rfl
def verdL (b : Bool) : List UInt8 := if b = true then acceptL else dropL
def goodR (r : R) : Bool := known r.pr && validS r.sa r.sb && validS r.da r.db && decide (r.sl ≤ r.sh) && decide (r.dl ≤ r.dh)
theorem goodR_iff (r : R) : goodR r = true ↔ known r.pr = true ∧ validS r.sa r.sb = true ∧ validS r.da r.db = true ∧ r.sl ≤ r.sh ∧ r.dl ≤ r.dh := by
  unfold goodR; simp [Bool.and_eq_true, and_assoc]
def wordsR (r : R) : List (List UInt8) := [verdL r.acc, wordS r.pr, netL r.sa r.sb, spanS r.sl r.sh, netL r.da r.db, spanS r.dl r.dh]
def lineR (r : R) : List UInt8 := join 32 (wordsR r)
def textR : List R → List UInt8
  | [] => []
  | r :: rs => lineR r ++ 10 :: textR rs
theorem textR_snoc (r : R) : ∀ rs : List R, textR (rs ++ [r]) = textR rs ++ (lineR r ++ [10]) := by
  intro rs
  induction rs with
  | nil => simp [textR]
  | cons x rs ih => simp [textR, ih]
def printE (rs : List R) : Nat := if 64 < rs.length then 14 else if rs.all goodR = true then 0 else 1
def printT (rs : List R) : List UInt8 := if printE rs = 0 then textR rs else []
theorem print_many {rs : List R} (h : 64 < rs.length) : printE rs = 14 ∧ printT rs = [] := by
  have : printE rs = 14 := by unfold printE; rw [if_pos h]
  exact ⟨this, by unfold printT; rw [this]; rfl⟩
theorem print_bad {rs : List R} {k : Nat} {r : R} (h : rs.length ≤ 64) (hk : rs[k]? = some r) (hg : goodR r = false) : printE rs = 1 ∧ printT rs = [] := by
  have ha : rs.all goodR = false := by
    rw [Bool.eq_false_iff]
    intro ha
    have := List.all_eq_true.1 ha r (List.mem_of_getElem? hk)
    rw [hg] at this; cases this
  have : printE rs = 1 := by unfold printE; rw [if_neg (by omega), if_neg (by rw [ha]; simp)]
  exact ⟨this, by unfold printT; rw [this]; rfl⟩
theorem print_ok {rs : List R} (h : rs.length ≤ 64) (hg : rs.all goodR = true) : printE rs = 0 ∧ printT rs = textR rs := by
  have : printE rs = 0 := by unfold printE; rw [if_neg (by omega), if_pos hg]
  exact ⟨this, by unfold printT; rw [if_pos this]⟩
theorem printE_zero {rs : List R} (h : printE rs = 0) : rs.length ≤ 64 ∧ rs.all goodR = true := by
  unfold printE at h
  split at h
  · cases h
  · split at h
    · exact ⟨by omega, by assumption⟩
    · cases h
theorem printE_le (rs : List R) : printE rs ≤ 14 := by unfold printE; split <;> (try split) <;> omega

/-! What has no space in it. -/
def Ink (w : List UInt8) : Prop := ∀ b ∈ w, 33 ≤ b.toNat ∧ b.toNat ≤ 126 ∧ b ≠ 35
theorem ink_dec (n : Nat) : Ink (decDigits n) := fun b hb => by
  have := isDig_le (decDigits_dig n b hb)
  exact ⟨by omega, by omega, fun e => by subst e; exact absurd this.1 (by decide)⟩
theorem ink_append {x y : List UInt8} (hx : Ink x) (hy : Ink y) : Ink (x ++ y) := fun b hb => (List.mem_append.1 hb).elim (hx b) (hy b)
theorem ink_cons {c : UInt8} {y : List UInt8} (hc : 33 ≤ c.toNat ∧ c.toNat ≤ 126 ∧ c ≠ 35) (hy : Ink y) : Ink (c :: y) := fun b hb => (List.mem_cons.1 hb).elim (fun e => e ▸ hc) (hy b)
instance (w : List UInt8) : Decidable (Ink w) := inferInstanceAs (Decidable (∀ b ∈ w, _))
theorem ink_print (a : Nat) : Ink (printS a) :=
  ink_append (ink_dec _) (ink_cons (by decide) (ink_append (ink_dec _) (ink_cons (by decide) (ink_append (ink_dec _) (ink_cons (by decide) (ink_dec _))))))
theorem ink_net (a : Nat) (n : Int) : Ink (netL a n) := by
  unfold netL
  split
  · decide
  · exact ink_append (ink_print _) (ink_cons (by decide) (ink_dec _))
theorem ink_span (a b : Nat) : Ink (spanS a b) := by
  unfold spanS
  split
  · decide
  · split
    · exact ink_dec _
    · exact ink_append (ink_dec _) (ink_cons (by decide) (ink_dec _))
theorem ink_verd (b : Bool) : Ink (verdL b) := by cases b <;> decide
theorem ink_word (p : Nat) : Ink (wordS p) := by
  unfold wordS
  split
  · decide
  · split
    · decide
    · split
      · decide
      · split <;> decide
theorem ne_print (a : Nat) : printS a ≠ [] := by
  unfold printS
  have := decDigits_ne (b3 a)
  simp [this]
theorem ne_net (a : Nat) (n : Int) : netL a n ≠ [] := by
  unfold netL
  split
  · decide
  · simp
theorem ne_span (a b : Nat) : spanS a b ≠ [] := by
  unfold spanS
  split
  · decide
  · split
    · exact decDigits_ne _
    · simp
theorem ne_verd (b : Bool) : verdL b ≠ [] := by cases b <;> decide
theorem ne_word {p : Nat} (h : known p = true) : wordS p ≠ [] := by
  have := known_word p
  rw [h] at this
  simpa using this
theorem words_clean {r : R} (h : goodR r = true) : ∀ w ∈ wordsR r, TxtM.Clean w := by
  obtain ⟨hk, _⟩ := (goodR_iff r).1 h
  intro w hw
  unfold wordsR at hw
  simp only [List.mem_cons, List.not_mem_nil, or_false] at hw
  rcases hw with rfl | rfl | rfl | rfl | rfl | rfl
  · exact ⟨ne_verd _, ink_verd _⟩
  · exact ⟨ne_word hk, ink_word _⟩
  · exact ⟨ne_net _ _, ink_net _ _⟩
  · exact ⟨ne_span _ _, ink_span _ _⟩
  · exact ⟨ne_net _ _, ink_net _ _⟩
  · exact ⟨ne_span _ _, ink_span _ _⟩
theorem words_ink (r : R) : ∀ w ∈ wordsR r, Ink w := by
  intro w hw
  unfold wordsR at hw
  simp only [List.mem_cons, List.not_mem_nil, or_false] at hw
  rcases hw with rfl | rfl | rfl | rfl | rfl | rfl
  · exact ink_verd _
  · exact ink_word _
  · exact ink_net _ _
  · exact ink_span _ _
  · exact ink_net _ _
  · exact ink_span _ _
theorem ink_no (w : List UInt8) (h : Ink w) : (32 : UInt8) ∉ w := fun hm => by
  have := (h 32 hm).1
  exact absurd this (by decide)

/-! Lines put together and parted again. -/
theorem pieces_join (c : UInt8) : ∀ ws : List (List UInt8), ws ≠ [] → (∀ w ∈ ws, c ∉ w) → pieces c (join c ws) = ws := by
  intro ws
  induction ws with
  | nil => intro h; exact absurd rfl h
  | cons w ws ih =>
    intro _ h
    cases ws with
    | nil => exact pieces_miss c w (h w (by simp))
    | cons v ws =>
      show pieces c (w ++ c :: join c (v :: ws)) = _
      rw [pieces_hit c w _ (h w (by simp)), ih (by simp) (fun x hx => h x (by simp [hx]))]
theorem join_inj {c : UInt8} {us vs : List (List UInt8)} (hu : us ≠ []) (hv : vs ≠ []) (h1 : ∀ w ∈ us, c ∉ w) (h2 : ∀ w ∈ vs, c ∉ w) (h : join c us = join c vs) : us = vs := by
  rw [← pieces_join c us hu h1, h, pieces_join c vs hv h2]

/-! Lengths. -/
theorem span_len {a b : Nat} (ha : a < 65536) (hb : b < 65536) : (spanS a b).length ≤ 11 := by
  have h1 := decDigits_len_le 4 a (by omega)
  have h2 := decDigits_len_le 4 b (by omega)
  unfold spanS
  split
  · decide
  · split
    · omega
    · simp; omega
theorem net_len {a : Nat} {n : Int} (ha : a < 4294967296) (hn : n ≤ 99) : (netL a n).length ≤ 18 := by
  have h1 := print_len a ha
  have h2 := decDigits_len_le 1 n.toNat (by omega)
  unfold netL
  split
  · decide
  · simp; omega
theorem word_len (p : Nat) : (wordS p).length ≤ 4 := by
  unfold wordS
  split
  · decide
  · split
    · decide
    · split
      · decide
      · split <;> decide
theorem verd_len (b : Bool) : (verdL b).length ≤ 6 := by cases b <;> decide
theorem good_bits {r : R} (h : goodR r = true) : (0 ≤ r.sb ∧ r.sb ≤ 32) ∧ 0 ≤ r.db ∧ r.db ≤ 32 := by
  obtain ⟨_, h1, h2, _⟩ := (goodR_iff r).1 h
  exact ⟨(validS_mk.1 h1).1, (validS_mk.1 h2).1⟩
theorem line_len {r : R} (hr : r.Ok) (h : goodR r = true) : (lineR r).length ≤ 80 := by
  obtain ⟨h1, h2⟩ := good_bits h
  have l1 := verd_len r.acc
  have l2 := word_len r.pr
  have l3 := net_len hr.sa (n := r.sb) (by omega)
  have l4 := span_len hr.sl hr.sh
  have l5 := net_len hr.da (n := r.db) (by omega)
  have l6 := span_len hr.dl hr.dh
  unfold lineR wordsR
  simp [join]; omega
theorem text_len {rs : List R} (hr : ∀ r ∈ rs, r.Ok) (h : rs.all goodR = true) : (textR rs).length ≤ rs.length * 81 := by
  induction rs with
  | nil => simp [textR]
  | cons r rs ih =>
    rw [List.all_cons, Bool.and_eq_true] at h
    have := ih (fun x hx => hr x (by simp [hx])) h.2
    have h2 := line_len (hr r (by simp)) h.1
    simp [textR]; omega

/-! Ports. -/
def portN (l : List UInt8) : Option Nat := if okN l = true ∧ valN l ≤ 65535 then some (valN l) else none
theorem okN_dec {n : Nat} (h : n ≤ top) : okN (decDigits n) = true := (okN_iff _).2 ⟨by rw [List.all_eq_true]; exact decDigits_dig n, by rw [decDigits_val], by rw [decDigits_val]; exact h⟩
theorem valN_dec {n : Nat} (h : n ≤ top) : valN (decDigits n) = n := by rw [valN_yes (okN_dec h), decDigits_val]
theorem okN_is {l : List UInt8} (h : okN l = true) : decDigits (valN l) = l := by
  rw [valN_yes h]; exact ((okN_iff l).1 h).2.1
theorem portN_some {l : List UInt8} {n : Nat} : portN l = some n ↔ l = decDigits n ∧ n ≤ 65535 := by
  unfold portN
  constructor
  · intro h
    split at h
    · rename_i hh
      cases h
      exact ⟨(okN_is hh.1).symm, hh.2⟩
    · cases h
  · rintro ⟨rfl, h⟩
    have ht : n ≤ top := by unfold top; omega
    rw [okN_dec ht, valN_dec ht, if_pos ⟨rfl, h⟩]
theorem portN_dec {n : Nat} (h : n ≤ 65535) : portN (decDigits n) = some n := portN_some.2 ⟨rfl, h⟩
theorem no_dash (n : Nat) : (45 : UInt8) ∉ decDigits n := no_dot n 45 (by decide)
theorem cut_hit (c : UInt8) (p r : List UInt8) (h : c ∉ p) : cut (p ++ c :: r) [c] = (p, r, true) := by
  have hi := index_hit c p r h
  unfold cut
  rw [hi, if_pos (by omega)]
  simp
theorem cut_miss (c : UInt8) (p : List UInt8) (h : c ∉ p) : cut p [c] = (p, [], false) := by
  have hi := index_miss c p h
  unfold cut
  rw [hi, if_neg (by omega)]
/-- What is ahead of the first dash; what is behind it, or the same again. -/
def lowS (l : List UInt8) : List UInt8 := (cut l [45]).1
def highS (l : List UInt8) : List UInt8 := if (cut l [45]).2.2 = true then (cut l [45]).2.1 else (cut l [45]).1
theorem low_two (a b : Nat) : lowS (decDigits a ++ 45 :: decDigits b) = decDigits a ∧ highS (decDigits a ++ 45 :: decDigits b) = decDigits b := by
  unfold lowS highS; rw [cut_hit 45 _ _ (no_dash a)]; exact ⟨rfl, rfl⟩
theorem low_one (a : Nat) : lowS (decDigits a) = decDigits a ∧ highS (decDigits a) = decDigits a := by
  unfold lowS highS; rw [cut_miss 45 _ (no_dash a)]; exact ⟨rfl, rfl⟩
def spanP (l : List UInt8) : Option (Nat × Nat) :=
  if l = anyL then some (0, 65535) else
  match portN (lowS l), portN (highS l) with
  | some a, some b => if a ≤ b ∧ spanS a b = l then some (a, b) else none
  | _, _ => none
theorem spanP_any : spanP anyL = some (0, 65535) := by unfold spanP; rw [if_pos rfl]
theorem span_any (a b : Nat) (h : spanS a b = anyL) : a = 0 ∧ b = 65535 := by
  unfold spanS at h
  split at h
  · assumption
  · exfalso
    have hm : (97 : UInt8) ∈ anyL := by decide
    rw [← h] at hm
    split at hm
    · exact absurd (decDigits_dig a _ hm) (by decide)
    · rcases List.mem_append.1 hm with hm | hm
      · exact absurd (decDigits_dig a _ hm) (by decide)
      · rcases List.mem_cons.1 hm with hm | hm
        · exact absurd hm (by decide)
        · exact absurd (decDigits_dig b _ hm) (by decide)
theorem spanP_some {l : List UInt8} {a b : Nat} : spanP l = some (a, b) ↔ a ≤ b ∧ b ≤ 65535 ∧ spanS a b = l := by
  unfold spanP
  constructor
  · intro h
    split at h
    · rename_i e
      subst e
      cases h
      exact ⟨by omega, by omega, rfl⟩
    · split at h
      · rename_i x y hx hy
        split at h
        · rename_i hh
          cases h
          exact ⟨hh.1, (portN_some.1 hy).2, hh.2⟩
        · cases h
      · cases h
  · rintro ⟨h1, h2, rfl⟩
    by_cases hA : a = 0 ∧ b = 65535
    · obtain ⟨rfl, rfl⟩ := hA
      rfl
    · have hne : spanS a b ≠ anyL := fun e => hA (span_any a b e)
      rw [if_neg hne]
      have e : spanS a b = if a = b then decDigits a else decDigits a ++ 45 :: decDigits b := by unfold spanS; rw [if_neg hA]
      by_cases hab : a = b
      · subst hab
        rw [if_pos rfl] at e
        rw [e, (low_one a).1, (low_one a).2, portN_dec h2]
        simp only []
        rw [if_pos ⟨h1, e⟩]
      · rw [if_neg hab] at e
        rw [e, (low_two a b).1, (low_two a b).2, portN_dec h2, portN_dec (by omega)]
        simp only []
        rw [if_pos ⟨h1, e⟩]
/-- What the reference sees in a text of ports. -/
def portsR (l : List UInt8) : Nat × Nat :=
  if l = anyL then (0, 65535) else if 65535 < valN (lowS l) ∨ 65535 < valN (highS l) then (1, 0) else (valN (lowS l), valN (highS l))
theorem portsR_lt (l : List UInt8) : (portsR l).1 < 65536 ∧ (portsR l).2 < 65536 := by
  unfold portsR
  split
  · decide
  · split
    · decide
    · exact ⟨by show valN _ < _; omega, by show valN _ < _; omega⟩
theorem portsR_span {a b : Nat} (h1 : a ≤ b) (h2 : b ≤ 65535) : portsR (spanS a b) = (a, b) := by
  unfold portsR
  have ta : a ≤ top := by unfold top; omega
  have tb : b ≤ top := by unfold top; omega
  by_cases hA : a = 0 ∧ b = 65535
  · obtain ⟨rfl, rfl⟩ := hA; rfl
  · rw [if_neg (fun e => hA (span_any a b e))]
    have e : spanS a b = if a = b then decDigits a else decDigits a ++ 45 :: decDigits b := by unfold spanS; rw [if_neg hA]
    by_cases hab : a = b
    · subst hab
      rw [if_pos rfl] at e
      rw [e, (low_one a).1, (low_one a).2, valN_dec ta, if_neg (by omega)]
    · rw [if_neg hab] at e
      rw [e, (low_two a b).1, (low_two a b).2, valN_dec ta, valN_dec tb, if_neg (by omega)]

/-! Protocols. -/
def protoP (w : List UInt8) : Option Nat := if w = anyL then some 0 else if w = icmpL then some 1 else if w = tcpL then some 6 else if w = udpL then some 17 else none
theorem protoP_some {w : List UInt8} {p : Nat} : protoP w = some p ↔ known p = true ∧ wordS p = w := by
  unfold protoP
  constructor
  · intro h
    split at h
    · rename_i e; cases h; subst e; exact ⟨rfl, rfl⟩
    · split at h
      · rename_i e; cases h; subst e; exact ⟨rfl, rfl⟩
      · split at h
        · rename_i e; cases h; subst e; exact ⟨rfl, rfl⟩
        · split at h
          · rename_i e; cases h; subst e; exact ⟨rfl, rfl⟩
          · cases h
  · rintro ⟨hk, rfl⟩
    rcases (known_iff p).1 hk with rfl | rfl | rfl | rfl <;> rfl
/-- What the reference sees in a word of a protocol, of the first k numbers. -/
def protoU (w : List UInt8) : Nat → Nat
  | 0 => 0
  | k + 1 => if wordS k = w then k else protoU w k
def protoD (w : List UInt8) : Nat := protoU w 18
theorem protoU_le (w : List UInt8) : ∀ k, protoU w k ≤ k := by
  intro k
  induction k with
  | zero => exact Nat.le_refl _
  | succ k ih => unfold protoU; split <;> omega
theorem protoD_word {p : Nat} (h : known p = true) : protoD (wordS p) = p := by
  rcases (known_iff p).1 h with rfl | rfl | rfl | rfl <;> decide

/-! A line of words. -/
def parseW : List (List UInt8) → Option R
  | [v, p, s, sp, d, dp] =>
    if v = acceptL ∨ v = dropL then
      match protoP p, netS s, spanP sp, netS d, spanP dp with
      | some p, some (sa, sb), some (sl, sh), some (da, db), some (dl, dh) => some ⟨decide (v = acceptL), p, sa, sb, da, db, sl, sh, dl, dh⟩
      | _, _, _, _, _ => none
    else none
  | _ => none
theorem netS_some {l : List UInt8} {a n : Nat} : netS l = some (a, n) ↔ validS a (n : Int) = true ∧ a < 4294967296 ∧ netL a (n : Int) = l := by
  constructor
  · intro h
    obtain ⟨h1, h2, h3⟩ := show_net h
    cases hv : validS a (n : Int) with
    | false => rw [show_no hv] at h1; cases h1
    | true => rw [show_yes hv] at h1; exact ⟨rfl, h2, Option.some.inj h1⟩
  · rintro ⟨h1, h2, h3⟩
    have := net_show h2 (show_yes h1)
    rw [h3] at this
    simpa using this
theorem parseW_some {ws : List (List UInt8)} {r : R} : parseW ws = some r ↔ goodR r = true ∧ r.Ok ∧ wordsR r = ws := by
  constructor
  · intro h
    unfold parseW at h
    split at h
    · rename_i v p s sp d dp
      split at h
      · rename_i hv
        split at h
        · rename_i p' sa sb sl sh da db dl dh h1 h2 h3 h4 h5
          cases h
          obtain ⟨a1, a2⟩ := protoP_some.1 h1
          obtain ⟨b1, b2, b3⟩ := netS_some.1 h2
          obtain ⟨c1, c2, c3⟩ := spanP_some.1 h3
          obtain ⟨d1, d2, d3⟩ := netS_some.1 h4
          obtain ⟨e1, e2, e3⟩ := spanP_some.1 h5
          have q1 := (validS_mk.1 b1).1
          have q2 := (validS_mk.1 d1).1
          have hp : p' < 256 := by rcases (known_iff p').1 a1 with rfl | rfl | rfl | rfl <;> decide
          refine ⟨(goodR_iff _).2 ⟨a1, b1, d1, c1, e1⟩, ⟨hp, b2, ⟨?_, ?_⟩, d2, ⟨?_, ?_⟩, ?_, ?_, ?_, ?_⟩, ?_⟩
          · show _ ≤ (sb : Int); omega
          · show (sb : Int) ≤ _; omega
          · show _ ≤ (db : Int); omega
          · show (db : Int) ≤ _; omega
          · show sl < _; omega
          · show sh < _; omega
          · show dl < _; omega
          · show dh < _; omega
          · unfold wordsR
            show [verdL (decide (v = acceptL)), wordS p', netL sa (sb : Int), spanS sl sh, netL da (db : Int), spanS dl dh] = _
            rw [a2, b3, c3, d3, e3]
            congr 1
            rcases hv with rfl | rfl <;> rfl
        · cases h
      · cases h
    · cases h
  · rintro ⟨hg, ho, rfl⟩
    obtain ⟨hk, hs, hd, hss, hdd⟩ := (goodR_iff r).1 hg
    obtain ⟨hb1, hb2⟩ := good_bits hg
    have e1 : protoP (wordS r.pr) = some r.pr := protoP_some.2 ⟨hk, rfl⟩
    have n1 : ((r.sb.toNat : Nat) : Int) = r.sb := by omega
    have n2 : ((r.db.toNat : Nat) : Int) = r.db := by omega
    have e2 : netS (netL r.sa r.sb) = some (r.sa, r.sb.toNat) := netS_some.2 ⟨by rw [n1]; exact hs, ho.sa, by rw [n1]⟩
    have e4 : netS (netL r.da r.db) = some (r.da, r.db.toNat) := netS_some.2 ⟨by rw [n2]; exact hd, ho.da, by rw [n2]⟩
    have e3 : spanP (spanS r.sl r.sh) = some (r.sl, r.sh) := spanP_some.2 ⟨hss, by have := ho.sh; omega, rfl⟩
    have e5 : spanP (spanS r.dl r.dh) = some (r.dl, r.dh) := spanP_some.2 ⟨hdd, by have := ho.dh; omega, rfl⟩
    unfold wordsR parseW
    simp only [e1, e2, e3, e4, e5]
    obtain ⟨acc, pr, sa, sb, da, db, sl, sh, dl, dh⟩ := r
    simp only at n1 n2 ⊢
    rw [if_pos (by cases acc <;> simp [verdL]), n1, n2]
    cases acc <;> rfl
theorem parseW_len {ws : List (List UInt8)} (h : ws.length ≠ 6) : parseW ws = none := by
  cases hp : parseW ws with
  | none => rfl
  | some r => exact absurd (by rw [← (parseW_some.1 hp).2.2]; rfl) h
/-- The rule that the reference sees in six words. -/
def seenR (v p s sp d dp : List UInt8) : R :=
  ⟨decide (v = acceptL), protoD p, ((netS s).getD (0, 0)).1, (((netS s).getD (0, 0)).2 : Int), ((netS d).getD (0, 0)).1, (((netS d).getD (0, 0)).2 : Int), (portsR sp).1, (portsR sp).2, (portsR dp).1, (portsR dp).2⟩
theorem netD_lt (l : List UInt8) : ((netS l).getD (0, 0)).1 < 4294967296 ∧ ((netS l).getD (0, 0)).2 ≤ 32 := by
  cases h : netS l with
  | none => exact ⟨by decide, by decide⟩
  | some x =>
    obtain ⟨a, n⟩ := x
    obtain ⟨_, h2, h3⟩ := show_net h
    exact ⟨h2, h3⟩
theorem seen_ok (v p s sp d dp : List UInt8) : (seenR v p s sp d dp).Ok := by
  have h1 := protoU_le p 18
  have h2 := netD_lt s
  have h3 := netD_lt d
  have h4 := portsR_lt sp
  have h5 := portsR_lt dp
  refine ⟨?_, h2.1, ⟨?_, ?_⟩, h3.1, ⟨?_, ?_⟩, h4.1, h4.2, h5.1, h5.2⟩
  · show protoU p 18 < 256; omega
  · show _ ≤ (((netS s).getD (0, 0)).2 : Int); omega
  · show (((netS s).getD (0, 0)).2 : Int) ≤ _; omega
  · show _ ≤ (((netS d).getD (0, 0)).2 : Int); omega
  · show (((netS d).getD (0, 0)).2 : Int) ≤ _; omega
theorem seen_no {v p s sp d dp : List UInt8} (h : goodR (seenR v p s sp d dp) = false ∨ lineR (seenR v p s sp d dp) ≠ join 32 [v, p, s, sp, d, dp]) : parseW [v, p, s, sp, d, dp] = none := by
  cases hp : parseW [v, p, s, sp, d, dp] with
  | none => rfl
  | some r =>
    exfalso
    obtain ⟨hg, ho, hw⟩ := parseW_some.1 hp
    have e : seenR v p s sp d dp = r := by
      obtain ⟨hk, hs, hd, hss, hdd⟩ := (goodR_iff r).1 hg
      obtain ⟨hb1, hb2⟩ := good_bits hg
      have n1 : ((r.sb.toNat : Nat) : Int) = r.sb := by omega
      have n2 : ((r.db.toNat : Nat) : Int) = r.db := by omega
      unfold wordsR at hw
      simp only [List.cons.injEq, and_true] at hw
      obtain ⟨rfl, rfl, rfl, rfl, rfl, rfl⟩ := hw
      have e2 : netS (netL r.sa r.sb) = some (r.sa, r.sb.toNat) := netS_some.2 ⟨by rw [n1]; exact hs, ho.sa, by rw [n1]⟩
      have e4 : netS (netL r.da r.db) = some (r.da, r.db.toNat) := netS_some.2 ⟨by rw [n2]; exact hd, ho.da, by rw [n2]⟩
      unfold seenR
      rw [protoD_word hk, e2, e4, portsR_span hss (by have := ho.sh; omega), portsR_span hdd (by have := ho.dh; omega)]
      obtain ⟨acc, pr, sa, sb, da, db, sl, sh, dl, dh⟩ := r
      simp only [Option.getD_some] at n1 n2 ⊢
      rw [n1, n2]
      cases acc <;> rfl
    rw [e] at h
    rcases h with h | h
    · rw [hg] at h; cases h
    · exact h (by unfold lineR; rw [hw])
theorem seen_yes {v p s sp d dp : List UInt8} (hi : ∀ w ∈ [v, p, s, sp, d, dp], (32 : UInt8) ∉ w) (hg : goodR (seenR v p s sp d dp) = true) (hl : lineR (seenR v p s sp d dp) = join 32 [v, p, s, sp, d, dp]) : parseW [v, p, s, sp, d, dp] = some (seenR v p s sp d dp) :=
  parseW_some.2 ⟨hg, seen_ok _ _ _ _ _ _, join_inj (by simp [wordsR]) (by simp) (fun w hw => ink_no w (words_ink _ w hw)) hi hl⟩

/-! Lists of lines. -/
def comp : List R → List Line → List R × Nat × Nat
  | acc, [] => (acc, 0, 0)
  | acc, (n, ws) :: ls => if acc.length = 64 then ([], n, 14) else
    match parseW ws with
    | some r => comp (acc ++ [r]) ls
    | none => ([], n, 3)
def compile (l : List UInt8) : List R × Nat × Nat := if errOf l = 0 then comp [] (linesOf l) else ([], lineOf l, errOf l)
theorem drop_at {ls : List Line} {k n : Nat} {ws : List (List UInt8)} (h : ls[k]? = some (n, ws)) : ls.drop k = (n, ws) :: ls.drop (k + 1) := by
  obtain ⟨hlt, he⟩ := List.getElem?_eq_some_iff.1 h
  rw [List.drop_eq_getElem_cons hlt, he]
theorem comp_many {ls : List Line} {k n : Nat} {ws : List (List UInt8)} {acc : List R} (h : ls[k]? = some (n, ws)) (ha : acc.length = 64) : comp acc (ls.drop k) = ([], n, 14) := by
  rw [drop_at h]; unfold comp; rw [if_pos ha]
theorem comp_bad {ls : List Line} {k n : Nat} {ws : List (List UInt8)} {acc : List R} (h : ls[k]? = some (n, ws)) (ha : acc.length ≠ 64) (hp : parseW ws = none) : comp acc (ls.drop k) = ([], n, 3) := by
  rw [drop_at h]; unfold comp; rw [if_neg ha, hp]
theorem comp_step {ls : List Line} {k n : Nat} {ws : List (List UInt8)} {acc : List R} {r : R} (h : ls[k]? = some (n, ws)) (ha : acc.length ≠ 64) (hp : parseW ws = some r) : comp acc (ls.drop k) = comp (acc ++ [r]) (ls.drop (k + 1)) := by
  rw [drop_at h, comp, if_neg ha, hp]
theorem comp_end {ls : List Line} {k : Nat} {acc : List R} (h : ls.length ≤ k) : comp acc (ls.drop k) = (acc, 0, 0) := by
  rw [List.drop_eq_nil_of_le h]; rfl
theorem comp_form : ∀ (ls : List Line) (acc : List R), acc.length ≤ 64 → acc.all goodR = true → (∀ r ∈ acc, r.Ok) →
    ((comp acc ls).2.2 = 0 → (comp acc ls).1.length ≤ 64 ∧ (comp acc ls).1.all goodR = true ∧ ∀ r ∈ (comp acc ls).1, r.Ok) ∧ ((comp acc ls).2.2 ≠ 0 → (comp acc ls).1 = []) ∧ (comp acc ls).2.2 ≤ 14 ∧ ((comp acc ls).2.2 = 0 → (comp acc ls).2.1 = 0) := by
  intro ls
  induction ls with
  | nil => intro acc h1 h2 h3; exact ⟨fun _ => ⟨h1, h2, h3⟩, fun h => absurd rfl h, Nat.zero_le _, fun _ => rfl⟩
  | cons x ls ih =>
    intro acc h1 h2 h3
    obtain ⟨n, ws⟩ := x
    rw [comp]
    split
    · exact ⟨(fun h => by cases h), (fun _ => rfl), Nat.le_refl _, (fun h => by cases h)⟩
    · split
      · rename_i r hp
        obtain ⟨hg, ho, _⟩ := parseW_some.1 hp
        refine ih _ (by simp; omega) (by rw [List.all_append, h2]; simp [hg]) (fun q hq => ?_)
        rcases List.mem_append.1 hq with hq | hq
        · exact h3 q hq
        · rw [List.mem_singleton.1 hq]; exact ho
      · exact ⟨(fun h => by cases h), (fun _ => rfl), (by show 3 ≤ 14; omega), (fun h => by cases h)⟩
theorem compile_ok {l : List UInt8} (h : (compile l).2.2 = 0) : (compile l).1.length ≤ 64 ∧ (compile l).1.all goodR = true ∧ (∀ r ∈ (compile l).1, r.Ok) ∧ (compile l).2.1 = 0 := by
  unfold compile at h ⊢
  split
  · rename_i h0
    rw [if_pos h0] at h
    have := comp_form (linesOf l) [] (by simp) rfl (fun r hr => by cases hr)
    exact ⟨(this.1 h).1, (this.1 h).2.1, (this.1 h).2.2, this.2.2.2 h⟩
  · rename_i h0
    rw [if_neg h0] at h
    exact absurd h h0
theorem compile_err {l : List UInt8} (h : (compile l).2.2 ≠ 0) : (compile l).1 = [] := by
  unfold compile at h ⊢
  split
  · rename_i h0
    rw [if_pos h0] at h
    exact (comp_form (linesOf l) [] (by simp) rfl (fun r hr => by cases hr)).2.1 h
  · rfl
theorem compile_le (l : List UInt8) : (compile l).2.2 ≤ 14 ∧ (compile l).1.length ≤ 64 ∧ (∀ r ∈ (compile l).1, r.Ok) := by
  by_cases h : (compile l).2.2 = 0
  · exact ⟨by omega, (compile_ok h).1, (compile_ok h).2.2.1⟩
  · rw [compile_err h]
    refine ⟨?_, by simp, fun r hr => by cases hr⟩
    unfold compile
    split
    · exact (comp_form (linesOf l) [] (by simp) rfl (fun r hr => by cases hr)).2.2.1
    · have := TxtM.errOf_le l; show errOf l ≤ 14; omega

/-! Printed rules, read again. -/
def linesR : Nat → List R → List Line
  | _, [] => []
  | n, r :: rs => (n, wordsR r) :: linesR (n + 1) rs
theorem lex_text : ∀ (rs : List R) (n : Nat), rs.all goodR = true → lex n [] [] false (textR rs) = linesR n rs := by
  intro rs
  induction rs with
  | nil => intro n _; rfl
  | cons r rs ih =>
    intro n h
    rw [List.all_cons, Bool.and_eq_true] at h
    obtain ⟨W', C, e, ht⟩ := TxtM.lex_words n (wordsR r) [] (by simp [wordsR]) (words_clean h.1)
    show lex n [] [] false (lineR r ++ 10 :: textR rs) = (n, wordsR r) :: linesR (n + 1) rs
    unfold lineR
    rw [ht, TxtM.lex_nl, e, ih (n + 1) h.2]
    rfl
theorem okb_ink {b : UInt8} (h : 33 ≤ b.toNat ∧ b.toNat ≤ 126 ∧ b ≠ 35) : okb b = true := by
  unfold okb
  rw [Bool.or_eq_true, Bool.and_eq_true, decide_eq_true_iff, decide_eq_true_iff]
  exact .inr ⟨by omega, by omega⟩
theorem join_okb : ∀ ws : List (List UInt8), (∀ w ∈ ws, Ink w) → (join 32 ws).all okb = true := by
  intro ws
  induction ws with
  | nil => intro _; rfl
  | cons w ws ih =>
    intro h
    have hw : w.all okb = true := by rw [List.all_eq_true]; exact fun b hb => okb_ink (h w (by simp) b hb)
    cases ws with
    | nil => exact hw
    | cons v ws =>
      show (w ++ 32 :: join 32 (v :: ws)).all okb = true
      rw [List.all_append, List.all_cons, hw, ih (fun x hx => h x (by simp [hx]))]
      decide
theorem text_okb : ∀ rs : List R, (textR rs).all okb = true := by
  intro rs
  induction rs with
  | nil => rfl
  | cons r rs ih =>
    show (lineR r ++ 10 :: textR rs).all okb = true
    rw [List.all_append, List.all_cons, ih, show (lineR r).all okb = true from join_okb _ (words_ink r)]
    decide
theorem comp_lines : ∀ (rs acc : List R) (n : Nat), rs.all goodR = true → (∀ r ∈ rs, r.Ok) → acc.length + rs.length ≤ 64 → comp acc (linesR n rs) = (acc ++ rs, 0, 0) := by
  intro rs
  induction rs with
  | nil => intro acc n _ _ _; simp [linesR, comp]
  | cons r rs ih =>
    intro acc n h ho hl
    rw [List.all_cons, Bool.and_eq_true] at h
    rw [List.length_cons] at hl
    show comp acc ((n, wordsR r) :: linesR (n + 1) rs) = _
    rw [comp, if_neg (by omega), parseW_some.2 ⟨h.1, ho r (by simp), rfl⟩]
    show comp (acc ++ [r]) (linesR (n + 1) rs) = _
    rw [ih _ _ h.2 (fun x hx => ho x (by simp [hx])) (by simp; omega)]
    simp
theorem compile_text {rs : List R} (h : printE rs = 0) (ho : ∀ r ∈ rs, r.Ok) (hl : (textR rs).length ≤ 4096) : compile (textR rs) = (rs, 0, 0) := by
  obtain ⟨h1, h2⟩ := printE_zero h
  obtain ⟨e1, e2, e3⟩ := TxtM.errOf_ok hl (text_okb rs)
  unfold compile
  rw [if_pos e1, e3, lex_text rs 1 h2, comp_lines rs [] 1 h2 ho (by simpa using h1)]
  rfl
theorem compile_long {l : List UInt8} (h : 4096 < l.length) : compile l = ([], 0, 2) := by
  obtain ⟨e1, e2, e3⟩ := TxtM.errOf_over h
  unfold compile
  rw [if_neg (by omega), e1, e2]
end Go.RulM
