/- Layer 24, plain mathematics: logs in which nothing races; the reference, backwards. -/
import Derived.Test.YtalclmfnalmphaaRacM
set_option linter.unusedVariables false
set_option linter.unusedSimpArgs false
namespace Go.Proofs.Ytalclmfnalmphaa
namespace RcM
section
variable {f : Nat → A} {a b c i m n : Nat}
/-! Logs in which nothing races. -/
theorem no_bad (h : ∀ i, i < n → 0 ≤ (f i).t ∧ (f i).t ≤ 63) : ¬ Bad f n := fun ⟨i, h1, h2⟩ => by have := h i h1; omega
theorem alone_one (h : ∀ i, i < n → (f i).t = 7) : Tells f n (-1) 0 :=
  .inr (.inr ⟨no_bad fun i hi => by rw [h i hi]; omega, fun j hj m hm => hm.2.2.2.2.2 (hb_same hm.1 (by rw [h j hj, h m (by have := hm.1; omega)])), rfl, rfl⟩)
theorem alone_reads (h : ∀ i, i < n → 0 ≤ (f i).t ∧ (f i).t ≤ 63) (hk : ∀ i, i < n → (f i).k ≠ 6) : Tells f n (-1) 0 :=
  .inr (.inr ⟨no_bad h, fun j hj m hm => by
    rcases hm.2.2.2.2.1 with e | e
    · exact hk m (by have := hm.1; omega) e
    · exact hk j hj e, rfl, rfl⟩)
/-- Under one mutex. -/
theorem alone_held {L : Int} (h : ∀ i, i < n → 0 ≤ (f (3 * i)).t ∧ (f (3 * i)).t ≤ 63 ∧ (f (3 * i + 1)).t = (f (3 * i)).t ∧ (f (3 * i + 2)).t = (f (3 * i)).t ∧ (f (3 * i)).k = 1 ∧ (f (3 * i)).p = L ∧ (f (3 * i + 2)).k = 2 ∧ (f (3 * i + 2)).p = L) : Tells f (3 * n) (-1) 0 := by
  have part : ∀ j, j < 3 * n → ∃ q, q < n ∧ (j = 3 * q ∨ j = 3 * q + 1 ∨ j = 3 * q + 2) := fun j hj => ⟨j / 3, by omega, by omega⟩
  refine .inr (.inr ⟨no_bad fun i hi => ?_, fun j hj m hm => ?_, rfl, rfl⟩)
  · obtain ⟨q, hq, rfl | rfl | rfl⟩ := part i hi <;> (have := h q hq; omega)
  · obtain ⟨h1, h2, h3, h4, h5, h6⟩ := hm
    obtain ⟨q, hq, ej⟩ := part j hj
    obtain ⟨r, hr, em⟩ := part m (by omega)
    have a1 := h q hq
    have a2 := h r hr
    have ej' : j = 3 * q + 1 := by
      rcases ej with rfl | rfl | rfl
      · omega
      · rfl
      · omega
    have em' : m = 3 * r + 1 := by
      rcases em with rfl | rfl | rfl
      · omega
      · rfl
      · omega
    subst ej' em'
    have l : r < q := by omega
    refine h6 ?_
    have s1 : Hb f (3 * r + 1) (3 * r + 2) := hb_same (by omega) (by omega)
    have s2 : Hb f (3 * r + 2) (3 * q) := .one (by omega) (.inr ⟨by omega, .inl ⟨by omega, by omega⟩⟩)
    have s3 : Hb f (3 * q) (3 * q + 1) := hb_same (by omega) (by omega)
    exact (s1.trans s2).trans s3
open Classical
/-! The reference: who is ahead, backwards. -/
noncomputable def ahB (f : Nat → A) (b n : Nat) : Bool := decide (n = b ∨ Hb f n b)
noncomputable def rtB (a b : A) : Bool := decide (Rt a b)
noncomputable def beB (f : Nat → A) (n : Nat) (a b : Int) : Bool := decide (0 ≤ a ∧ a < b ∧ b < n ∧ Hb f a.toNat b.toNat)
/-- .. by the steps to those above n and below m. -/
noncomputable def anB (f : Nat → A) (b n m : Nat) : Bool := decide (∃ s, n < s ∧ s < m ∧ (s = b ∨ Hb f s b) ∧ Rt (f n) (f s))
theorem anB_start (f : Nat → A) (b n : Nat) : anB f b n (n + 1) = false := decide_eq_false fun ⟨s, h1, h2, _⟩ => by omega
theorem anB_step (h : n < m) : anB f b n (m + 1) = (anB f b n m || (ahB f b m && rtB (f n) (f m))) := by
  unfold anB ahB rtB
  rw [Bool.eq_iff_iff, Bool.or_eq_true, Bool.and_eq_true, decide_eq_true_iff, decide_eq_true_iff, decide_eq_true_iff, decide_eq_true_iff]
  constructor
  · rintro ⟨s, h1, h2, h3, h4⟩
    by_cases e : s = m
    · subst e; exact .inr ⟨h3, h4⟩
    · exact .inl ⟨s, h1, by omega, h3, h4⟩
  · rintro (⟨s, h1, h2, h3⟩ | ⟨h1, h2⟩)
    · exact ⟨s, h1, by omega, h3⟩
    · exact ⟨m, h, by omega, h1, h2⟩
theorem anB_mono (h : anB f b n m = true) (hm : m ≤ i) : anB f b n i = true := by
  unfold anB at h ⊢
  rw [decide_eq_true_iff] at h ⊢
  obtain ⟨s, h1, h2, h3⟩ := h
  exact ⟨s, h1, by omega, h3⟩
theorem anB_end (h : n < b) : anB f b n (b + 1) = ahB f b n := by
  unfold anB ahB
  rw [Bool.eq_iff_iff, decide_eq_true_iff, decide_eq_true_iff, hb_first]
  constructor
  · rintro ⟨s, h1, h2, h3, h4⟩; exact .inr ⟨s, h1, by omega, h4, h3⟩
  · rintro (h1 | ⟨s, h1, h2, h3, h4⟩)
    · omega
    · exact ⟨s, h1, by omega, h4, h3⟩
theorem anB_hit (h : n < b) (h1 : anB f b n m = true) (hm : m ≤ b + 1) : ahB f b n = true := by rw [← anB_end h]; exact anB_mono h1 hm
end
end RcM
end Go.Proofs.Ytalclmfnalmphaa
