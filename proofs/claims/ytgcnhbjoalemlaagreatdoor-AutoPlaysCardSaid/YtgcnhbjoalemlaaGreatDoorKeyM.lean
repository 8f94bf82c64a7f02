/- Plain mathematics of flow keys: endpoints in order, the hash byte by byte, powers of two, the order of keys. -/
import Derived.Laws.BitsAllLaws
set_option linter.unusedVariables false
namespace Go.Proofs.YtgcnhbjoalemlaaGreatDoor
namespace KeyM

/-- Endpoint (a, p) is ahead of endpoint (b, q). -/
def lowB (a p b q : Nat) : Bool := decide (a < b ∨ (a = b ∧ p < q))
theorem lowB_ne {a p b q : Nat} (h : a ≠ b) : lowB a p b q = decide (a < b) := decide_eq_decide.2 (by omega)
theorem lowB_eq {a p q : Nat} : lowB a p a q = decide (p < q) := decide_eq_decide.2 (by omega)
theorem low_num {a p b q : Nat} (hp : p < 65536) (hq : q < 65536) : lowB a p b q = decide (a * 65536 + p < b * 65536 + q) := by
  exact decide_eq_decide.2 (by omega)

/-- One byte into the hash. -/
def step (h b : Nat) : Nat := (h ^^^ b) * 16777619 % 4294967296
section
variable (s : Nat → Nat → Nat)
end
/-- A number of stripes. -/
def isPow (s : Int) : Bool := decide (s ∈ [1, 2, 4, 8, 16, 32, 64, 128, 256, 512, 1024, 2048, 4096])
theorem isPow_bd {s : Int} (h : isPow s = true) : 1 ≤ s ∧ s ≤ 4096 := by
  have : s ∈ [1, 2, 4, 8, 16, 32, 64, 128, 256, 512, 1024, 2048, 4096] := by simpa [isPow] using h
  simp only [List.mem_cons, List.not_mem_nil, or_false] at this
  omega
set_option maxRecDepth 100000 in
theorem pow_and_fin : ∀ n : Fin 4096, (((n.val + 1) &&& n.val) == 0) = isPow ((n.val + 1 : Nat) : Int) := by decide +kernel
theorem pow_and (n : Nat) (h1 : 1 ≤ n) (h2 : n ≤ 4096) : ((n &&& (n - 1)) == 0) = isPow (n : Int) := by
  have := pow_and_fin ⟨n - 1, by omega⟩
  simp only [show n - 1 + 1 = n by omega] at this
  exact this
theorem isPow_out {s : Int} (h : s < 1 ∨ 4096 < s) : isPow s = false := by
  rcases e : isPow s with _ | _
  · rfl
  · have := isPow_bd e; omega

/-- The order of keys. -/
def lessB (a b p q r a2 b2 p2 q2 r2 : Nat) : Bool := if r ≠ r2 then decide (r < r2) else if a ≠ a2 ∨ p ≠ p2 then lowB a p a2 p2 else lowB b q b2 q2
def keyN (a b p q r : Nat) : Nat := ((r * 281474976710656 + (a * 65536 + p)) * 281474976710656) + (b * 65536 + q)
theorem less_num {a b p q r a2 b2 p2 q2 r2 : Nat} (ha : a < 4294967296) (hb : b < 4294967296) (hp : p < 65536) (hq : q < 65536) (ha2 : a2 < 4294967296) (hb2 : b2 < 4294967296) (hp2 : p2 < 65536) (hq2 : q2 < 65536) :
    lessB a b p q r a2 b2 p2 q2 r2 = decide (keyN a b p q r < keyN a2 b2 p2 q2 r2) := by
  unfold lessB keyN
  rw [low_num hp hp2, low_num hq hq2]
  by_cases h1 : r = r2
  · rw [if_neg (by omega)]
    by_cases h2 : a = a2 ∧ p = p2
    · rw [if_neg (by omega)]; exact decide_eq_decide.2 (by omega)
    · rw [if_pos (by omega)]; exact decide_eq_decide.2 (by omega)
  · rw [if_pos h1]; exact decide_eq_decide.2 (by omega)
theorem keyN_inj {a b p q r a2 b2 p2 q2 r2 : Nat} (ha : a < 4294967296) (hb : b < 4294967296) (hp : p < 65536) (hq : q < 65536) (ha2 : a2 < 4294967296) (hb2 : b2 < 4294967296) (hp2 : p2 < 65536) (hq2 : q2 < 65536)
    (h : keyN a b p q r = keyN a2 b2 p2 q2 r2) : a = a2 ∧ b = b2 ∧ p = p2 ∧ q = q2 ∧ r = r2 := by
  unfold keyN at h; omega
end KeyM
end Go.Proofs.YtgcnhbjoalemlaaGreatDoor
