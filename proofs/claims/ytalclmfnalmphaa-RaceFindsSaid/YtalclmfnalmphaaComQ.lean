/- Any program: a slice of structs of one-cell integer fields that came in, whatever their number. -/
import Derived.Lib.SmallJoins
import Derived.ChangeSame
import Derived.OpenShut
import Derived.Deep.Fields
import Derived.Deep.Slices
import Derived.WalkKit
import Derived.ProofKit
import Derived.Below
import Derived.Lib.Hide
set_option linter.unusedVariables false
namespace Go.Mtl
open Go.Joins Go.ChangeShapes Go.WideShapes Go.RowKit Go.Deep

/-- The slice v reads as structs of these numbers; where it is not empty it lies below block B. -/
def Sts (w : World) (B : Nat) (ks : List IntKind) (v : Value) (rs : List (List Int)) : Prop :=
  ∃ A c, v = .slice A rs.length c ∧ rs.length ≤ c ∧ c ≤ 9223372036854775807 ∧ (0 < rs.length → ∃ b off, A = some ⟨b, off, none⟩ ∧ b < B ∧
    ∀ (i : Nat) (r : List Int), rs[i]? = some r → ∀ (j : Nat) (k : IntKind) (z : Int), ks[j]? = some k → r[j]? = some z → w.cell? ⟨b, off + (i * ks.length + j), none⟩ = some (Value.int k z))
/-- Each has all its fields, and each field fits its kind. -/
def Fits (ks : List IntKind) (r : List Int) : Prop := r.length = ks.length ∧ ∀ (j : Nat) (k : IntKind) (z : Int), ks[j]? = some k → r[j]? = some z → (Lit.int k z).wf = true
section
variable {w w' : World} {B : Nat} {ks : List IntKind} {v : Value} {rs : List (List Int)}
theorem Sts.keep (h : Sts w B ks v rs) (hk : ∀ p : Addr, p.block < B → w'.cell? p = w.cell? p) : Sts w' B ks v rs := by
  obtain ⟨A, c, e, h1, h2, h3⟩ := h
  refine ⟨A, c, e, h1, h2, fun hn => ?_⟩
  obtain ⟨b, off, e2, hb, hc⟩ := h3 hn
  exact ⟨b, off, e2, hb, fun i r hr j k z h4 h5 => (hk ⟨b, _, none⟩ hb).trans (hc i r hr j k z h4 h5)⟩
theorem Sts.below (h : Sts w B ks v rs) (hb : Below B w w') : Sts w' B ks v rs := h.keep fun _ hp => hb.cell hp
theorem Sts.len (h : Sts w B ks v rs) : ∃ A c, v = .slice A rs.length c ∧ rs.length ≤ c ∧ c ≤ 9223372036854775807 := by
  obtain ⟨A, c, e, h1, h2, _⟩ := h
  exact ⟨A, c, e, h1, h2⟩
theorem Sts.at_ (h : Sts w B ks v rs) {i : Nat} {r : List Int} (hr : rs[i]? = some r) : ∃ b off c, v = .slice (some ⟨b, off, none⟩) rs.length c ∧ rs.length ≤ c ∧ c ≤ 9223372036854775807 ∧ b < B ∧
    ∀ (j : Nat) (k : IntKind) (z : Int), ks[j]? = some k → r[j]? = some z → w.cell? ⟨b, off + (i * ks.length + j), none⟩ = some (Value.int k z) := by
  obtain ⟨A, c, rfl, h1, h2, h3⟩ := h
  obtain ⟨b, off, rfl, hb, hc⟩ := h3 (by have := (List.getElem?_eq_some_iff.1 hr).1; omega)
  exact ⟨b, off, c, rfl, h1, h2, hb, hc i r hr⟩
end

section
variable {H : Type} {enc : TypeId × Value → H} {P : Program} {w : World} {base : Nat} {spare : Nat → Bool} {held : Bool}
theorem open_ints_row {t : TypeId} {fs : Array Field} {ks : List IntKind} (hs : P.underlying t = some (.struct fs)) (hone : oneCellFields P fs = true) (hk : fs.size = ks.length)
    (hty : ∀ (j : Nat) (f : Field) (k : IntKind), fs[j]? = some f → ks[j]? = some k → P.underlying f.type = some (.int k)) {n : Nat} {cs : List Value} (hl : cs.length = ks.length)
    {x : DataW H × List MemPlace} (h : DataW.trod enc P w base spare held n t cs = some x) : ∃ r : List Int, Fits ks r ∧ ∀ (j : Nat) (k : IntKind) (z : Int), ks[j]? = some k → r[j]? = some z → cs[j]? = some (Value.int k z) := by
  obtain ⟨ys, m, _, _, _, hyl, hg⟩ := DataW.trod_struct hs h
  have each : ∀ (j : Nat) (k : IntKind), ks[j]? = some k → ∃ z : Int, cs[j]? = some (Value.int k z) ∧ (Lit.int k z).wf = true := by
    intro j k hj
    have hjl : j < ks.length := (List.getElem?_eq_some_iff.1 hj).1
    obtain ⟨f, hf⟩ : ∃ f, fs[j]? = some f := ⟨_, Array.getElem?_eq_getElem (by omega)⟩
    obtain ⟨ho, hc⟩ := hone_of hone j f hf
    have h1 := hg j f hf
    rw [ho, hc] at h1
    have e : (cs.drop j).take 1 = [cs[j]'(by omega)] := by
      rw [List.drop_eq_getElem_cons (by omega), List.take_succ_cons, List.take_zero]
    rw [e, List.getElem?_eq_getElem (by omega)] at h1
    obtain ⟨z, ez, _, wz⟩ := DataW.trod_int (hty j f k hf hj) h1
    refine ⟨z, ?_, wz⟩
    rw [List.getElem?_eq_getElem (by omega)]
    simpa using ez
  have all : ∀ m, m ≤ ks.length → ∃ r : List Int, r.length = m ∧ ∀ (j : Nat) (k : IntKind) (z : Int), ks[j]? = some k → r[j]? = some z → cs[j]? = some (Value.int k z) ∧ (Lit.int k z).wf = true := by
    intro m
    induction m with
    | zero => intro _; exact ⟨[], rfl, fun j k z _ h => by simp at h⟩
    | succ m ih =>
      intro hm
      obtain ⟨r, h1, h2⟩ := ih (by omega)
      obtain ⟨k, hkm⟩ : ∃ k, ks[m]? = some k := ⟨_, List.getElem?_eq_getElem (by omega)⟩
      obtain ⟨z, hz, wz⟩ := each m k hkm
      refine ⟨r ++ [z], by simp [h1], fun j k' z' hj hz' => ?_⟩
      by_cases hjm : j < m
      · rw [List.getElem?_append_left (by omega)] at hz'
        exact h2 j k' z' hj hz'
      · have hj2 : j < (r ++ [z]).length := (List.getElem?_eq_some_iff.1 hz').1
        have hjm2 : j = m := by simp at hj2; omega
        subst hjm2
        rw [List.getElem?_append_right (by omega), h1, Nat.sub_self] at hz'
        simp at hz'
        rw [hkm] at hj
        cases hj
        subst hz'
        exact ⟨hz, wz⟩
  obtain ⟨r, h1, h2⟩ := all ks.length (Nat.le_refl _)
  exact ⟨r, ⟨h1, fun j k z a b => (h2 j k z a b).2⟩, fun j k z a b => (h2 j k z a b).1⟩
theorem open_structs {t e : TypeId} {fs : Array Field} (ks : List IntKind) (ht : P.underlying t = some (.slice e)) (hs : P.underlying e = some (.struct fs)) (hone : oneCellFields P fs = true) (hk : fs.size = ks.length) (hz : 0 < ks.length) (hC : P.cellsOf e = ks.length)
    (hty : ∀ (j : Nat) (f : Field) (k : IntKind), fs[j]? = some f → ks[j]? = some k → P.underlying f.type = some (.int k)) {A : Option Addr} {len cap : Nat} {d : DataW H} {p : List MemPlace}
    (h : DataW.Trod enc P w 0 (fun _ => true) true t (.slice A len cap) d p) : ∃ rs : List (List Int), rs.length = len ∧ Sts w w.heap.size ks (.slice A len cap) rs ∧ ∀ r ∈ rs, Fits ks r := by
  obtain ⟨fuel, hf⟩ := h
  rcases open_slice ht hf with ⟨hcs, _⟩ | ⟨a, l, c, m, n', D, Pl, hcs, hb, hl, hm, hmm, _, hi⟩
  · simp [Value.cells] at hcs
    obtain ⟨rfl, rfl, rfl⟩ := hcs
    exact ⟨[], rfl, ⟨none, 0, rfl, Nat.le_refl _, by omega, fun h => absurd h (by simp)⟩, fun r hr => by cases hr⟩
  · simp [Value.cells] at hcs
    obtain ⟨rfl, rfl, rfl⟩ := hcs
    simp at hmm
    subst hmm
    rw [hC] at hi
    have each : ∀ i, i < len → ∃ r : List Int, Fits ks r ∧ ∀ (j : Nat) (k : IntKind) (z : Int), ks[j]? = some k → r[j]? = some z → w.cell? (a.add (i * ks.length + j)) = some (Value.int k z) := by
      intro i hlt
      obtain ⟨cs', hc, htr⟩ := hi i (by omega)
      obtain ⟨_, hcl, hat⟩ := World.cells?_some hc
      obtain ⟨r, hr, ho⟩ := open_ints_row hs hone hk hty hcl htr
      refine ⟨r, hr, fun j k z hj hz => ?_⟩
      rw [← ho j k z hj hz, ← Go.Deep.add_add]
      exact hat j (by have := (List.getElem?_eq_some_iff.1 hj).1; omega)
    have all : ∀ n, n ≤ len → ∃ rs : List (List Int), rs.length = n ∧ (∀ r ∈ rs, Fits ks r) ∧ ∀ (i : Nat) (r : List Int), rs[i]? = some r → ∀ (j : Nat) (k : IntKind) (z : Int), ks[j]? = some k → r[j]? = some z → w.cell? (a.add (i * ks.length + j)) = some (Value.int k z) := by
      intro n
      induction n with
      | zero => intro _; exact ⟨[], rfl, (fun r hr => by cases hr), (fun i r hr => by simp at hr)⟩
      | succ n ih =>
        intro hn
        obtain ⟨rs, h1, h2, h3⟩ := ih (by omega)
        obtain ⟨r, ho, hc⟩ := each n (by omega)
        refine ⟨rs ++ [r], by simp [h1], fun q hq => ?_, fun i q hq => ?_⟩
        · rcases List.mem_append.1 hq with hq | hq
          · exact h2 q hq
          · rw [List.mem_singleton.1 hq]; exact ho
        · by_cases hj : i < rs.length
          · rw [List.getElem?_append_left hj] at hq
            exact h3 i q hq
          · have hq2 : i < (rs ++ [r]).length := (List.getElem?_eq_some_iff.1 hq).1
            have hin : i = n := by simp at hq2; omega
            subst hin
            rw [List.getElem?_append_right (by omega), h1, Nat.sub_self] at hq
            simp at hq
            subst hq
            exact hc
    obtain ⟨rs, h1, h2, h3⟩ := all len (Nat.le_refl _)
    refine ⟨rs, h1, ⟨some a, m, by rw [h1], by omega, by unfold maxLen at hm; omega, fun hn => ?_⟩, h2⟩
    obtain ⟨b, off, sp⟩ := a
    obtain ⟨r, hr⟩ : ∃ r, rs[0]? = some r := ⟨_, List.getElem?_eq_getElem hn⟩
    have hfr := (h2 r (List.mem_of_getElem? hr)).1
    obtain ⟨k, hk0⟩ : ∃ k, ks[0]? = some k := ⟨_, List.getElem?_eq_getElem hz⟩
    obtain ⟨z, hz0⟩ : ∃ z, r[0]? = some z := ⟨_, List.getElem?_eq_getElem (by omega)⟩
    have hc0 := h3 0 r hr 0 k z hk0 hz0
    obtain rfl : sp = none := by simpa [Addr.add] using World.cell?_spot hc0
    have hb0 := World.block_lt_of_cell? _ _ hc0
    refine ⟨b, off, rfl, by simpa [Addr.add] using hb0, fun i r hr j k z hj hz => ?_⟩
    have e : ∀ j, Addr.add ⟨b, off, none⟩ j = ⟨b, off + j, none⟩ := fun j => by unfold Addr.add; split <;> simp_all
    rw [← e]
    exact h3 i r hr j k z hj hz
end
/-- The fields' kinds, by the kernel. -/
def kindsB (P : Program) (fs : Array Field) (ks : List IntKind) : Bool := (List.range ks.length).all fun j => match fs[j]?, ks[j]? with
  | some f, some k => (match P.underlying f.type with | some (.int k') => decide (k' = k) | _ => false)
  | _, _ => false
theorem kinds_of {P : Program} {fs : Array Field} {ks : List IntKind} (h : kindsB P fs ks = true) : ∀ (j : Nat) (f : Field) (k : IntKind), fs[j]? = some f → ks[j]? = some k → P.underlying f.type = some (.int k) := by
  intro j f k hf hk
  have := List.all_eq_true.1 h j (List.mem_range.2 (List.getElem?_eq_some_iff.1 hk).1)
  simp only [hf, hk] at this
  split at this
  · rename_i k' e
    rw [e, of_decide_eq_true this]
  · cases this
end Go.Mtl
