/- Plain mathematics of layer 13: which rule of a list a packet meets first. Nothing of any program. -/
import Derived.Test.YtaniiofoaaekbaaRulM
set_option linter.unusedVariables false
set_option linter.unusedSimpArgs false
namespace Go.MatM
open Go.RulM (R)
open Go.AdrM (validS hasS)

/-- A packet, by its seven cells. -/
structure K where
  pr : Nat
  sr : Nat
  ds : Nat
  sp : Nat
  dp : Nat
  fl : Nat
  kd : Nat
/-- Its cells are values of their types. -/
structure K.Ok (k : K) : Prop where
  pr : k.pr < 256
  sr : k.sr < 4294967296
  ds : k.ds < 4294967296
  sp : k.sp < 65536
  dp : k.dp < 65536
  fl : k.fl < 256
  kd : k.kd < 256
theorem k_of {a b c d e f g : Int} (h : (0 ≤ a ∧ a ≤ 255) ∧ (0 ≤ b ∧ b ≤ 4294967295) ∧ (0 ≤ c ∧ c ≤ 4294967295) ∧ (0 ≤ d ∧ d ≤ 65535) ∧ (0 ≤ e ∧ e ≤ 65535) ∧ (0 ≤ f ∧ f ≤ 255) ∧ (0 ≤ g ∧ g ≤ 255)) :
    ∃ k : K, k.Ok ∧ a = (k.pr : Int) ∧ b = (k.sr : Int) ∧ c = (k.ds : Int) ∧ d = (k.sp : Int) ∧ e = (k.dp : Int) ∧ f = (k.fl : Int) ∧ g = (k.kd : Int) := by
  obtain ⟨h1, h2, h3, h4, h5, h6, h7⟩ := h
  refine ⟨⟨a.toNat, b.toNat, c.toNat, d.toNat, e.toNat, f.toNat, g.toNat⟩, ⟨?_, ?_, ?_, ?_, ?_, ?_, ?_⟩, ?_, ?_, ?_, ?_, ?_, ?_, ?_⟩ <;> simp only <;> omega

def protoB (r : R) (k : K) : Bool := decide (r.pr = 0) || decide (r.pr = k.pr)
def inB (a b x : Nat) : Bool := decide (a ≤ x) && decide (x ≤ b)
/-- The packet matches the rule. -/
def hitB (r : R) (k : K) : Bool := protoB r k && ((hasS r.sa r.sb k.sr && hasS r.da r.db k.ds) && (inB r.sl r.sh k.sp && inB r.dl r.dh k.dp))
theorem protoB_any {r : R} {k : K} (h : r.pr = 0) : protoB r k = true := by unfold protoB; rw [decide_eq_true h, Bool.true_or]
theorem protoB_is {r : R} {k : K} (h : r.pr ≠ 0) : protoB r k = decide (r.pr = k.pr) := by unfold protoB; rw [decide_eq_false h, Bool.false_or]

/-- The first rule that it matches: its place. -/
def fst (k : K) (rs : List R) : Option Nat := rs.findIdx? (fun r => hitB r k)
def idxI : Option Nat → Int
  | some n => (n : Int)
  | none => -1
def accB (rs : List R) : Option Nat → Bool
  | some n => (rs[n]?.map (·.acc)).getD false
  | none => false
theorem fst_hit {k : K} {rs : List R} {i : Nat} {r : R} (hr : rs[i]? = some r) (hh : hitB r k = true) (hb : ∀ (j : Nat) q, j < i → rs[j]? = some q → hitB q k = false) : fst k rs = some i := by
  obtain ⟨hi, e⟩ := List.getElem?_eq_some_iff.1 hr
  refine List.findIdx?_eq_some_iff_getElem.2 ⟨hi, by rw [e]; exact hh, fun j hj => ?_⟩
  rw [hb j _ hj (List.getElem?_eq_getElem (by omega))]
  decide
theorem fst_none {k : K} {rs : List R} (hb : ∀ (j : Nat) q, rs[j]? = some q → hitB q k = false) : fst k rs = none := by
  refine List.findIdx?_eq_none_iff.2 fun x hx => ?_
  obtain ⟨i, hi, rfl⟩ := List.getElem_of_mem hx
  exact hb i _ (List.getElem?_eq_getElem hi)
theorem fst_some {k : K} {rs : List R} {i : Nat} (h : fst k rs = some i) : ∃ r, rs[i]? = some r ∧ hitB r k = true ∧ ∀ (j : Nat) q, j < i → rs[j]? = some q → hitB q k = false := by
  obtain ⟨hi, h1, h2⟩ := List.findIdx?_eq_some_iff_getElem.1 h
  refine ⟨rs[i], List.getElem?_eq_getElem hi, h1, fun j q hj hq => ?_⟩
  obtain ⟨hj', e⟩ := List.getElem?_eq_some_iff.1 hq
  have := h2 j hj
  rw [e] at this
  simpa using this
theorem accB_at {rs : List R} {i : Nat} {r : R} (hr : rs[i]? = some r) : accB rs (some i) = r.acc := by
  show (rs[i]?.map (·.acc)).getD false = r.acc
  rw [hr]; rfl
/-- What comes behind the first one makes no difference. -/
theorem fst_behind {k : K} {rs : List R} {i m : Nat} (h : fst k rs = some i) (hm : i < m) (more : List R) : fst k (rs.take m ++ more) = some i := by
  obtain ⟨r, hr, hh, hb⟩ := fst_some h
  have front : ∀ (j : Nat) q, j < m → (rs.take m ++ more)[j]? = some q → j < rs.length → rs[j]? = some q := by
    intro j q hj hq hl
    rw [List.getElem?_append_left (by rw [List.length_take]; omega), List.getElem?_take_of_lt hj] at hq
    exact hq
  have hi := (List.getElem?_eq_some_iff.1 hr).1
  refine fst_hit (r := r) ?_ hh fun j q hj hq => hb j q hj (front j q (by omega) hq (by omega))
  rw [List.getElem?_append_left (by rw [List.length_take]; omega), List.getElem?_take_of_lt hm]
  exact hr
theorem accB_behind {rs : List R} {i m : Nat} (hi : i < rs.length) (hm : i < m) (more : List R) : accB (rs.take m ++ more) (some i) = accB rs (some i) := by
  show ((rs.take m ++ more)[i]?.map (·.acc)).getD false = (rs[i]?.map (·.acc)).getD false
  rw [List.getElem?_append_left (by rw [List.length_take]; omega), List.getElem?_take_of_lt hm]
/-- One more rule ahead of the others. -/
theorem ahead_yes {k : K} {r : R} (rs : List R) (h : hitB r k = true) : fst k (r :: rs) = some 0 := fst_hit (r := r) rfl h fun j q hj => absurd hj (Nat.not_lt_zero _)
theorem ahead_no {k : K} {r : R} (rs : List R) (h : hitB r k = false) : fst k (r :: rs) = (fst k rs).map (· + 1) := by
  unfold fst
  rw [List.findIdx?_cons]
  simp [h]
theorem ahead_acc {r : R} (rs : List R) : ∀ o : Option Nat, accB (r :: rs) (o.map (· + 1)) = accB rs o := by
  intro o
  cases o with
  | none => rfl
  | some n => rfl
/-- The first hundred. -/
def few (rs : List R) : List R := if 100 < rs.length then rs.take 100 else rs
theorem few_len (rs : List R) : (few rs).length ≤ 100 ∧ (few rs).length ≤ rs.length := by
  unfold few; split
  · rw [List.length_take]; omega
  · omega
theorem few_at {rs : List R} {i : Nat} {r : R} (h : (few rs)[i]? = some r) : rs[i]? = some r := by
  unfold few at h
  split at h
  · rw [List.getElem?_take] at h
    split at h
    · exact h
    · cases h
  · exact h
theorem few_ok {rs : List R} (h : ∀ r ∈ rs, r.Ok) : ∀ r ∈ few rs, r.Ok := by
  unfold few; split
  · exact fun r hr => h r (List.mem_of_mem_take hr)
  · exact h
end Go.MatM
