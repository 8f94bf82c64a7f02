/- Several texts of this proof in one file, each in its own namespace. -/
/- Plain mathematics of bit fields: numbers below 2^64, bit by bit. Nothing here speaks of the program. -/
namespace FldM

/-! ### What is put is there; nothing else is changed. -/
/-! ### Numbers with a sign -/
/-! ### Numbers in bytes -/
end FldM
/- Plain mathematics of the flow's word: three numbers in one. Nothing here speaks of the program. -/
namespace FloM
open FldM

def gI (c k v : Int) : Int := c + k * 1099511627776 + v * 1152921504606846976
/-- Numbers that fit. -/
structure Fit (c k v : Int) : Prop where
  c0 : 0 ≤ c
  c1 : c < 1099511627776
  k0 : 0 ≤ k
  k1 : k < 1048576
  v0 : 0 ≤ v
  v1 : v < 16
theorem Fit.of (c k v : Int) (h : 0 ≤ c ∧ c < 1099511627776 ∧ 0 ≤ k ∧ k < 1048576 ∧ 0 ≤ v ∧ v < 16) : Fit c k v := ⟨h.1, h.2.1, h.2.2.1, h.2.2.2.1, h.2.2.2.2.1, h.2.2.2.2.2⟩
end FloM
/- Plain mathematics of the gate's word: three numbers in one. Nothing here speaks of the program. -/
namespace GatM
open FldM

def gI (c k v : Int) : Int := c + k * 1099511627776 + v * 4503599627370496
/-- Numbers that fit. -/
structure Fit (c k v : Int) : Prop where
  c0 : 0 ≤ c
  c1 : c < 1099511627776
  k0 : 0 ≤ k
  k1 : k < 4096
  v0 : 0 ≤ v
  v1 : v < 4096
theorem Fit.of (c k v : Int) (h : 0 ≤ c ∧ c < 1099511627776 ∧ 0 ≤ k ∧ k < 4096 ∧ 0 ≤ v ∧ v < 4096) : Fit c k v := ⟨h.1, h.2.1, h.2.2.1, h.2.2.2.1, h.2.2.2.2.1, h.2.2.2.2.2⟩
end GatM
/- Layer 19, plain mathematics: a memory's words, the holders of its mutexes (-1: free), its log; what each call answers and leaves. -/
set_option linter.unusedVariables false
namespace Go.MemM
/-- An access of the log: the thread, the kind, the place. -/
structure Ac where
  t : Int
  k : Int
  p : Int
deriving DecidableEq
structure Ms where
  ws : List Int
  hs : List Int
  ls : List Ac
structure Ok (s : Ms) : Prop where
  w : ∀ x ∈ s.ws, 0 ≤ x ∧ x ≤ 18446744073709551615
  h : ∀ x ∈ s.hs, -1 ≤ x ∧ x ≤ 9223372036854775807
  wl : s.ws.length ≤ 1000000000000
  hl : s.hs.length ≤ 1000000000000

def clampN (n : Int) : Nat := if n < 0 then 0 else if 8192 < n then 8192 else n.toNat
theorem clamp_le (n : Int) : clampN n ≤ 8192 := by unfold clampN; split <;> (try split) <;> omega
def newS (a b : Int) : Ms := ⟨List.replicate (clampN a) 0, List.replicate (clampN b) (-1), []⟩
theorem newS_ok (a b : Int) : Ok (newS a b) := by
  have h1 := clamp_le a
  have h2 := clamp_le b
  refine ⟨fun x hx => ?_, fun x hx => ?_, by simp [newS]; omega, by simp [newS]; omega⟩
  · obtain rfl := List.eq_of_mem_replicate hx; omega
  · obtain rfl := List.eq_of_mem_replicate hx; omega

/-- Is there a number i in a list of n? -/
def has (n : Nat) (i : Int) : Bool := decide (0 ≤ i ∧ i < n)
theorem has_yes {n : Nat} {i : Int} (h : has n i = true) : ∃ j : Nat, i = (j : Int) ∧ j < n := by
  have := of_decide_eq_true h
  exact ⟨i.toNat, by omega, by omega⟩
theorem has_no {n : Nat} {i : Int} (h : has n i = false) : i < 0 ∨ (n : Int) ≤ i := by
  have := of_decide_eq_false h
  omega
def at_ (l : List Int) (i : Int) : Int := l.getD i.toNat 0
theorem at_nat (l : List Int) (j : Nat) : at_ l (j : Int) = l.getD j 0 := rfl
theorem getD_mem {l : List Int} {j : Nat} (h : j < l.length) : l.getD j 0 ∈ l := by
  simp only [List.getD, List.getElem?_eq_getElem h, Option.getD_some]; exact List.getElem_mem h

def say (s : Ms) (t k p : Int) : Ms := { s with ls := s.ls ++ [⟨t, k, p⟩] }
def moreS (s : Ms) (x : Int) : Ms := { s with ws := s.ws ++ [x] }
def swapS (s : Ms) (t i old now : Int) : Ms :=
  if has s.ws.length i then (if at_ s.ws i = old then say { s with ws := s.ws.set i.toNat now } t 4 (3 * i) else say s t 3 (3 * i)) else s
def holdV (s : Ms) (i : Int) : Int := if has s.hs.length i then at_ s.hs i else -1
def lockB (s : Ms) (t i : Int) : Bool := decide (0 ≤ t) && has s.hs.length i && (at_ s.hs i == -1)
def lockS (s : Ms) (t i : Int) : Ms := if lockB s t i then say { s with hs := s.hs.set i.toNat t } t 1 (3 * i + 1) else s
def unlockV (s : Ms) (t i : Int) : Int := if has s.hs.length i = false then 15 else if t < 0 ∨ at_ s.hs i ≠ t then 13 else 0
def unlockS (s : Ms) (t i : Int) : Ms := if unlockV s t i = 0 then say { s with hs := s.hs.set i.toNat (-1) } t 2 (3 * i + 1) else s
def touchS (s : Ms) (t k i : Int) : Ms := if 0 ≤ i ∧ i ≤ 1099511627776 then say s t k (3 * i + 2) else s

section
variable {s : Ms}
theorem Ok.hat (h : Ok s) {j : Nat} (hj : j < s.hs.length) : -1 ≤ s.hs.getD j 0 ∧ s.hs.getD j 0 ≤ 9223372036854775807 := h.h _ (getD_mem hj)
theorem Ok.say (h : Ok s) (t k p : Int) : Ok (say s t k p) := ⟨h.w, h.h, h.wl, h.hl⟩
theorem Ok.more (h : Ok s) {x : Int} (hx : 0 ≤ x ∧ x ≤ 18446744073709551615) (hl : s.ws.length < 1000000000000) : Ok (moreS s x) :=
  ⟨fun y hy => by
    rcases List.mem_append.1 hy with hy | hy
    · exact h.w y hy
    · simp at hy; subst hy; exact hx, h.h, by simp [moreS]; omega, h.hl⟩
theorem Ok.setw (h : Ok s) {x : Int} (hx : 0 ≤ x ∧ x ≤ 18446744073709551615) (j : Nat) : Ok { s with ws := s.ws.set j x } :=
  ⟨fun y hy => by
    rcases List.mem_or_eq_of_mem_set hy with hy | rfl
    · exact h.w y hy
    · exact hx, h.h, by simp [h.wl], h.hl⟩
theorem Ok.seth (h : Ok s) {x : Int} (hx : -1 ≤ x ∧ x ≤ 9223372036854775807) (j : Nat) : Ok { s with hs := s.hs.set j x } :=
  ⟨h.w, fun y hy => by
    rcases List.mem_or_eq_of_mem_set hy with hy | rfl
    · exact h.h y hy
    · exact hx, h.wl, by simp [h.hl]⟩
theorem Ok.swap (h : Ok s) (t i old now : Int) (hx : 0 ≤ now ∧ now ≤ 18446744073709551615) : Ok (swapS s t i old now) := by
  unfold swapS; split
  · split
    · exact (h.setw hx _).say ..
    · exact h.say ..
  · exact h
theorem Ok.lock (h : Ok s) (t i : Int) (ht : t ≤ 9223372036854775807) : Ok (lockS s t i) := by
  unfold lockS; split
  · rename_i hb
    refine (h.seth ⟨?_, ht⟩ _).say ..
    simp [lockB] at hb; omega
  · exact h
theorem Ok.unlock (h : Ok s) (t i : Int) : Ok (unlockS s t i) := by
  unfold unlockS; split
  · exact (h.seth ⟨by omega, by omega⟩ _).say ..
  · exact h
theorem Ok.touch (h : Ok s) (t k i : Int) : Ok (touchS s t k i) := by unfold touchS; split; exact h.say ..; exact h
end
end Go.MemM
