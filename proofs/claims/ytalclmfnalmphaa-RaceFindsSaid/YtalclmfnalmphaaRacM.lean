/- Layer 24, plain mathematics: what happens before what in a log, by definition and by vector clocks. -/
set_option linter.unusedVariables false
set_option linter.unusedSimpArgs false
namespace Go.Proofs.Ytalclmfnalmphaa
namespace RcM
/-- An access. -/
structure A where
  t : Int
  k : Int
  p : Int
/-- Does it come right ahead of a later one? -/
def Rt (a b : A) : Prop := a.t = b.t ∨ a.p = b.p ∧ (a.k = 2 ∧ b.k = 1 ∨ a.k = 4 ∧ (b.k = 4 ∨ b.k = 3))
inductive Hb (f : Nat → A) : Nat → Nat → Prop
  | one {a b : Nat} : a < b → Rt (f a) (f b) → Hb f a b
  | add {a b c : Nat} : Hb f a b → b < c → Rt (f b) (f c) → Hb f a c
section
variable {f g : Nat → A} {a b c i m n : Nat}
theorem Hb.lt (h : Hb f a b) : a < b := by
  induction h with
  | one h _ => exact h
  | add _ h _ ih => omega
theorem Hb.trans (h : Hb f a b) (h2 : Hb f b c) : Hb f a c := by
  induction h2 with
  | one l r => exact .add h l r
  | add _ l r ih => exact .add ih l r
/-- By the last step. -/
theorem hb_last : Hb f a b ↔ ∃ s, s < b ∧ Rt (f s) (f b) ∧ (a = s ∨ Hb f a s) := by
  constructor
  · intro h
    cases h with
    | one l r => exact ⟨a, l, r, .inl rfl⟩
    | add h l r => exact ⟨_, l, r, .inr h⟩
  · rintro ⟨s, l, r, rfl | h⟩
    · exact .one l r
    · exact .add h l r
/-- By the first step. -/
theorem hb_first : Hb f a b ↔ ∃ s, a < s ∧ s ≤ b ∧ Rt (f a) (f s) ∧ (s = b ∨ Hb f s b) := by
  constructor
  · intro h
    induction h with
    | one l r => exact ⟨_, l, Nat.le_refl _, r, .inl rfl⟩
    | add h l r ih =>
      obtain ⟨s, h1, h2, h3, h4⟩ := ih
      refine ⟨s, h1, by omega, h3, .inr ?_⟩
      rcases h4 with rfl | h4
      · exact .one l r
      · exact .add h4 l r
  · rintro ⟨s, h1, h2, h3, rfl | h4⟩
    · exact .one h1 h3
    · exact (Hb.one h1 h3).trans h4
theorem hb_same (h : a < b) (e : (f a).t = (f b).t) : Hb f a b := .one h (.inl e)
/-- Of the log's first ones alone. -/
theorem Hb.congr (h : Hb f a b) (e : ∀ i, i ≤ b → g i = f i) : Hb g a b := by
  induction h with
  | one l r => exact .one l (by rw [e _ (by omega), e _ (by omega)]; exact r)
  | add h l r ih => exact .add (ih fun i hi => e i (by omega)) l (by rw [e _ (by omega), e _ (by omega)]; exact r)

/-- Two that race. -/
def Ra (f : Nat → A) (m n : Nat) : Prop :=
  m < n ∧ (f m).p = (f n).p ∧ ((f m).k = 5 ∨ (f m).k = 6) ∧ ((f n).k = 5 ∨ (f n).k = 6) ∧ ((f m).k = 6 ∨ (f n).k = 6) ∧ ¬ Hb f m n
/-- What Find tells of the first n accesses. -/
def Bad (f : Nat → A) (n : Nat) : Prop := ∃ i, i < n ∧ ((f i).t < 0 ∨ 63 < (f i).t)
def Tells (f : Nat → A) (n : Nat) (x e : Int) : Prop :=
  Bad f n ∧ x = 0 ∧ e = 14 ∨ ¬ Bad f n ∧ (∃ i : Nat, i < n ∧ x = i ∧ (∃ m, Ra f m i) ∧ ∀ j, j < i → ∀ m, ¬ Ra f m j) ∧ e = 17 ∨ ¬ Bad f n ∧ (∀ j, j < n → ∀ m, ¬ Ra f m j) ∧ x = -1 ∧ e = 0
theorem Tells.one {x e y d : Int} (h : Tells f n x e) (h' : Tells f n y d) : x = y ∧ e = d := by
  rcases h with ⟨h1, h2, h3⟩ | ⟨h1, ⟨i, h2, h3, ⟨q, h4⟩, h5⟩, h6⟩ | ⟨h1, h2, h3, h4⟩ <;> rcases h' with ⟨k1, k2, k3⟩ | ⟨k1, ⟨i', k2, k3, ⟨q', k4⟩, k5⟩, k6⟩ | ⟨k1, k2, k3, k4⟩ <;> first | exact absurd h1 k1 | exact absurd k1 h1 | skip
  · exact ⟨by omega, by omega⟩
  · rcases Nat.lt_trichotomy i i' with h | h | h
    · exact absurd h4 (k5 i h q)
    · subst h; exact ⟨by omega, by omega⟩
    · exact absurd k4 (h5 i' h q')
  · exact absurd h4 (k2 i h2 q)
  · exact absurd k4 (h2 i' k2 q')
  · exact ⟨by omega, by omega⟩

/-! Vector clocks. -/
abbrev Ck := Nat → Int
/-- What is known of the first i accesses: each thread's clock, each place's. -/
structure Vc where
  c : Nat → Ck
  un : Int → Ck
  st : Int → Ck
  rd : Int → Ck
  wr : Int → Ck
variable {V : Vc}
def zero : Vc := ⟨fun _ _ => 0, fun _ _ => 0, fun _ _ => 0, fun _ _ => 0, fun _ _ => 0⟩
def mx (a b : Ck) : Ck := fun u => max (a u) (b u)
/-- What happens before an access. -/
def known (V : Vc) (x : A) : Ck := if x.k = 1 then mx (V.c x.t.toNat) (V.un x.p) else if x.k = 3 ∨ x.k = 4 then mx (V.c x.t.toNat) (V.st x.p) else V.c x.t.toNat
def exc (a b : Ck) : Prop := ∃ u, u < 64 ∧ b u < a u
def races (V : Vc) (x : A) (kn : Ck) : Prop := x.k = 5 ∧ exc (V.wr x.p) kn ∨ x.k = 6 ∧ (exc (V.wr x.p) kn ∨ exc (V.rd x.p) kn)
def setN (c : Ck) (t : Nat) (n : Int) : Ck := fun u => if u = t then n else c u
def setP {T : Type} (c : Int → T) (p : Int) (n : T) : Int → T := fun u => if u = p then n else c u
def record (V : Vc) (x : A) (kn : Ck) : Vc :=
  { c := fun t => if t = x.t.toNat then kn else V.c t
    un := if x.k = 2 then setP V.un x.p (mx (V.un x.p) kn) else V.un
    st := if x.k = 4 then setP V.st x.p kn else V.st
    rd := if x.k = 5 then setP V.rd x.p (setN (V.rd x.p) x.t.toNat (kn x.t.toNat)) else V.rd
    wr := if x.k = 6 then setP V.wr x.p (setN (V.wr x.p) x.t.toNat (kn x.t.toNat)) else V.wr }
/-- The clock c contains just those accesses (of the first i) that q says. -/
def Ct (f : Nat → A) (i : Nat) (c : Ck) (q : Nat → Prop) : Prop := (∀ u, 0 ≤ c u ∧ c u ≤ i) ∧ ∀ m, m < i → (((m : Int) + 1 ≤ c (f m).t.toNat) ↔ q m)
/-- The last accesses of each thread that q says. -/
def La (f : Nat → A) (i : Nat) (c : Ck) (q : Nat → Prop) : Prop :=
  (∀ u, c u = 0 ∨ ∃ m, m < i ∧ c u = m + 1 ∧ (f m).t.toNat = u ∧ q m) ∧ ∀ m, m < i → q m → (m : Int) + 1 ≤ c (f m).t.toNat
def Up (f : Nat → A) (i : Nat) (z : Nat → Prop) (m : Nat) : Prop := ∃ s, s < i ∧ z s ∧ (m = s ∨ Hb f m s)
structure Inv (f : Nat → A) (i : Nat) (V : Vc) : Prop where
  c : ∀ t : Nat, Ct f i (V.c t) (Up f i fun s => (f s).t = t)
  un : ∀ p, Ct f i (V.un p) (Up f i fun s => (f s).k = 2 ∧ (f s).p = p)
  st : ∀ p, Ct f i (V.st p) (Up f i fun s => (f s).k = 4 ∧ (f s).p = p)
  rd : ∀ p, La f i (V.rd p) fun s => (f s).k = 5 ∧ (f s).p = p
  wr : ∀ p, La f i (V.wr p) fun s => (f s).k = 6 ∧ (f s).p = p
theorem Inv.zero : Inv f 0 zero :=
  ⟨fun _ => ⟨fun _ => ⟨Int.le_refl _, Int.le_refl _⟩, fun m h => absurd h (Nat.not_lt_zero m)⟩, fun _ => ⟨fun _ => ⟨Int.le_refl _, Int.le_refl _⟩, fun m h => absurd h (Nat.not_lt_zero m)⟩,
   fun _ => ⟨fun _ => ⟨Int.le_refl _, Int.le_refl _⟩, fun m h => absurd h (Nat.not_lt_zero m)⟩, fun _ => ⟨fun _ => .inl rfl, fun m h => absurd h (Nat.not_lt_zero m)⟩, fun _ => ⟨fun _ => .inl rfl, fun m h => absurd h (Nat.not_lt_zero m)⟩⟩
theorem Ct.mx {c d : Ck} {q z : Nat → Prop} (h : Ct f i c q) (h' : Ct f i d z) : Ct f i (mx c d) fun m => q m ∨ z m := by
  refine ⟨fun u => ?_, fun m hm => ?_⟩
  · have := h.1 u; have := h'.1 u; unfold RcM.mx; omega
  · show _ ↔ q m ∨ z m
    rw [← h.2 m hm, ← h'.2 m hm]; unfold RcM.mx; omega
theorem Ct.as {c : Ck} {q z : Nat → Prop} (h : Ct f i c q) (e : ∀ m, m < i → (q m ↔ z m)) : Ct f i c z := ⟨h.1, fun m hm => (h.2 m hm).trans (e m hm)⟩
/-- The known ones are those that happen before the access. -/
theorem Inv.known (h : Inv f i V) (ht : 0 ≤ (f i).t) : Ct f i (known V (f i)) fun m => Hb f m i := by
  have hc := h.c (f i).t.toNat
  have e : (((f i).t.toNat : Nat) : Int) = (f i).t := by omega
  rw [e] at hc
  unfold RcM.known
  split
  · rename_i h1
    refine (hc.mx (h.un (f i).p)).as fun m hm => ?_
    rw [hb_last]
    constructor
    · rintro (⟨s, h2, h3, h4⟩ | ⟨s, h2, h3, h4⟩)
      · exact ⟨s, h2, .inl h3, h4⟩
      · exact ⟨s, h2, .inr ⟨h3.2, .inl ⟨h3.1, h1⟩⟩, h4⟩
    · rintro ⟨s, h2, h3 | ⟨h3, h5⟩, h4⟩
      · exact .inl ⟨s, h2, h3, h4⟩
      · exact .inr ⟨s, h2, ⟨by omega, h3⟩, h4⟩
  split
  · rename_i h0 h1
    refine (hc.mx (h.st (f i).p)).as fun m hm => ?_
    rw [hb_last]
    constructor
    · rintro (⟨s, h2, h3, h4⟩ | ⟨s, h2, h3, h4⟩)
      · exact ⟨s, h2, .inl h3, h4⟩
      · exact ⟨s, h2, .inr ⟨h3.2, .inr ⟨h3.1, by omega⟩⟩, h4⟩
    · rintro ⟨s, h2, h3 | ⟨h3, h5⟩, h4⟩
      · exact .inl ⟨s, h2, h3, h4⟩
      · exact .inr ⟨s, h2, ⟨by omega, h3⟩, h4⟩
  · rename_i h0 h1
    refine hc.as fun m hm => ?_
    rw [hb_last]
    constructor
    · rintro ⟨s, h2, h3, h4⟩
      exact ⟨s, h2, .inl h3, h4⟩
    · rintro ⟨s, h2, h3 | ⟨h3, h5⟩, h4⟩
      · exact ⟨s, h2, h3, h4⟩
      · omega
/-- Those that race with an access are those that its place's clock contains and the known one does not. -/
theorem La.exc {c kn : Ck} {q : Nat → Prop} (h : La f i c q) (hk : Ct f i kn fun m => Hb f m i) (hb : ∀ j, j < i → 0 ≤ (f j).t ∧ (f j).t ≤ 63) : exc c kn ↔ ∃ m, m < i ∧ q m ∧ ¬ Hb f m i := by
  constructor
  · rintro ⟨u, hu, hlt⟩
    have h0 := (hk.1 u).1
    rcases h.1 u with h1 | ⟨m, h1, h2, h3, h4⟩
    · omega
    · refine ⟨m, h1, h4, fun hh => ?_⟩
      have := (hk.2 m h1).2 hh
      rw [h3] at this
      omega
  · rintro ⟨m, h1, h2, h3⟩
    have := h.2 m h1 h2
    have h4 : ¬ (m : Int) + 1 ≤ kn (f m).t.toNat := fun hh => h3 ((hk.2 m h1).1 hh)
    exact ⟨(f m).t.toNat, by have := hb m h1; omega, by omega⟩
theorem Inv.races (h : Inv f i V) (hb : ∀ j, j ≤ i → 0 ≤ (f j).t ∧ (f j).t ≤ 63) : races V (f i) (RcM.known V (f i)) ↔ ∃ m, Ra f m i := by
  have hk := h.known (hb i (Nat.le_refl _)).1
  have hb' : ∀ j, j < i → 0 ≤ (f j).t ∧ (f j).t ≤ 63 := fun j hj => hb j (by omega)
  unfold RcM.races
  rw [(h.wr (f i).p).exc hk hb', (h.rd (f i).p).exc hk hb']
  constructor
  · rintro (⟨h1, m, h2, h3, h4⟩ | ⟨h1, ⟨m, h2, h3, h4⟩ | ⟨m, h2, h3, h4⟩⟩)
    · exact ⟨m, h2, h3.2, .inr h3.1, .inl h1, .inl h3.1, h4⟩
    · exact ⟨m, h2, h3.2, .inr h3.1, .inr h1, .inl h3.1, h4⟩
    · exact ⟨m, h2, h3.2, .inl h3.1, .inr h1, .inr h1, h4⟩
  · rintro ⟨m, h2, h3, h4, h5, h6, h7⟩
    rcases h5 with h5 | h5
    · exact .inl ⟨h5, m, h2, ⟨by omega, h3⟩, h7⟩
    · rcases h4 with h4 | h4
      · exact .inr ⟨h5, .inr ⟨m, h2, ⟨h4, h3⟩, h7⟩⟩
      · exact .inr ⟨h5, .inl ⟨m, h2, ⟨h4, h3⟩, h7⟩⟩
theorem Ct.next {c : Ck} {z : Nat → Prop} (h : Ct f i c (Up f i z)) (hz : ¬ z i) : Ct f (i + 1) c (Up f (i + 1) z) := by
  refine ⟨fun u => by have := h.1 u; omega, fun m hm => ?_⟩
  by_cases e : m = i
  · subst e
    constructor
    · intro h1; have := (h.1 (f m).t.toNat).2; omega
    · rintro ⟨s, h1, h2, h3⟩
      rcases h3 with rfl | h3
      · exact absurd h2 hz
      · have := h3.lt; have e2 : s ≠ m := by omega
        omega
  · rw [h.2 m (by omega)]
    constructor
    · rintro ⟨s, h1, h2⟩; exact ⟨s, by omega, h2⟩
    · rintro ⟨s, h1, h2, h3⟩
      exact ⟨s, by by_cases e2 : s = i; (subst e2; exact absurd h2 hz); omega, h2, h3⟩
theorem La.next {c : Ck} {q : Nat → Prop} (h : La f i c q) (hq : ¬ q i) : La f (i + 1) c q :=
  ⟨fun u => (h.1 u).imp id fun ⟨m, h1, h2⟩ => ⟨m, by omega, h2⟩, fun m hm hh => h.2 m (by by_cases e : m = i; (subst e; exact absurd hh hq); omega) hh⟩
theorem La.touch {c kn : Ck} {q : Nat → Prop} (h : La f i c q) (hq : q i) (hk : kn (f i).t.toNat = i + 1) : La f (i + 1) (setN c (f i).t.toNat (kn (f i).t.toNat)) q := by
  refine ⟨fun u => ?_, fun m hm hh => ?_⟩
  · unfold setN
    split
    · rename_i e; exact .inr ⟨i, by omega, hk, e.symm, hq⟩
    · exact (h.1 u).imp id fun ⟨m, h1, h2⟩ => ⟨m, by omega, h2⟩
  · unfold setN
    split
    · rw [hk]; omega
    · rename_i e
      exact h.2 m (by by_cases e2 : m = i; (subst e2; exact absurd rfl e); omega) hh
/-- The clock of an access itself. -/
theorem Ct.own {kn : Ck} (hk : Ct f i kn fun m => Hb f m i) (ht : 0 ≤ (f i).t) (hb : ∀ j, j < i → 0 ≤ (f j).t) : Ct f (i + 1) (setN kn (f i).t.toNat ((i : Int) + 1)) fun m => m = i ∨ Hb f m i := by
  refine ⟨fun u => ?_, fun m hm => ?_⟩
  · have := hk.1 u
    unfold setN; split <;> omega
  · unfold setN
    by_cases e : m = i
    · subst e; rw [if_pos rfl]; exact ⟨fun _ => .inl rfl, fun _ => by omega⟩
    · by_cases e2 : (f m).t.toNat = (f i).t.toNat
      · rw [if_pos e2]
        exact ⟨fun _ => .inr (hb_same (by omega) (by have := hb m (by omega); omega)), fun _ => by omega⟩
      · rw [if_neg e2, hk.2 m (by omega)]
        exact ⟨.inr, fun h => h.resolve_left e⟩
theorem Inv.step {V : Vc} (h : Inv f i V) (hb : ∀ j, j ≤ i → 0 ≤ (f j).t ∧ (f j).t ≤ 63) : Inv f (i + 1) (record V (f i) (setN (RcM.known V (f i)) (f i).t.toNat ((i : Int) + 1))) := by
  have hk := h.known (hb i (Nat.le_refl _)).1
  have ho := hk.own (hb i (Nat.le_refl _)).1 fun j hj => (hb j (by omega)).1
  have hs : setN (RcM.known V (f i)) (f i).t.toNat ((i : Int) + 1) (f i).t.toNat = (i : Int) + 1 := by unfold setN; rw [if_pos rfl]
  revert ho hs
  generalize setN (RcM.known V (f i)) (f i).t.toNat ((i : Int) + 1) = kn
  intro ho hs
  unfold record
  refine ⟨fun t => ?_, fun p => ?_, fun p => ?_, fun p => ?_, fun p => ?_⟩ <;> dsimp only
  · by_cases e : t = (f i).t.toNat
    · rw [if_pos e]
      refine ho.as fun m hm => ?_
      constructor
      · intro h1
        exact ⟨i, by omega, by have := hb i (Nat.le_refl _); omega, h1⟩
      · rintro ⟨s, h1, h2, h3⟩
        by_cases es : s = i
        · subst es; exact h3
        · have hsi : Hb f s i := hb_same (by omega) (by have := hb i (Nat.le_refl _); omega)
          rcases h3 with rfl | h3
          · exact .inr hsi
          · exact .inr (h3.trans hsi)
    · rw [if_neg e]
      exact (h.c t).next (by have := hb i (Nat.le_refl _); omega)
  · by_cases e : (f i).k = 2
    · rw [if_pos e]
      unfold setP
      by_cases ep : p = (f i).p
      · rw [if_pos ep]
        subst ep
        have h1 := (h.un (f i).p)
        refine ⟨fun u => ?_, fun m hm => ?_⟩
        · have := h1.1 u; have := ho.1 u; unfold mx; omega
        · have a2 := ho.2 m hm
          have : (m : Int) + 1 ≤ mx (V.un (f i).p) kn (f m).t.toNat ↔ ((m : Int) + 1 ≤ V.un (f i).p (f m).t.toNat) ∨ ((m : Int) + 1 ≤ kn (f m).t.toNat) := by unfold mx; omega
          rw [this, a2]
          constructor
          · rintro (h2 | h2)
            · have hm' : m < i := by have := (h1.1 (f m).t.toNat).2; omega
              obtain ⟨s, h3, h4⟩ := (h1.2 m hm').1 h2
              exact ⟨s, by omega, h4⟩
            · exact ⟨i, by omega, ⟨e, rfl⟩, h2⟩
          · rintro ⟨s, h2, h3, h4⟩
            by_cases es : s = i
            · subst es; exact .inr h4
            · have hm' : m < i := by rcases h4 with rfl | h4; omega; have := h4.lt; omega
              exact .inl ((h1.2 m hm').2 ⟨s, by omega, h3, h4⟩)
      · rw [if_neg ep]
        exact (h.un p).next fun hh => ep hh.2.symm
    · rw [if_neg e]
      exact (h.un p).next fun hh => e hh.1
  · by_cases e : (f i).k = 4
    · rw [if_pos e]
      unfold setP
      by_cases ep : p = (f i).p
      · rw [if_pos ep]
        subst ep
        refine ho.as fun m hm => ?_
        constructor
        · intro h1; exact ⟨i, by omega, ⟨e, rfl⟩, h1⟩
        · rintro ⟨s, h2, h3, h4⟩
          by_cases es : s = i
          · subst es; exact h4
          · have hsi : Hb f s i := .one (by omega) (.inr ⟨h3.2, .inr ⟨h3.1, .inl e⟩⟩)
            rcases h4 with rfl | h4
            · exact .inr hsi
            · exact .inr (h4.trans hsi)
      · rw [if_neg ep]
        exact (h.st p).next fun hh => ep hh.2.symm
    · rw [if_neg e]
      exact (h.st p).next fun hh => e hh.1
  · by_cases e : (f i).k = 5
    · rw [if_pos e]
      unfold setP
      by_cases ep : p = (f i).p
      · rw [if_pos ep]; subst ep
        exact (h.rd (f i).p).touch ⟨e, rfl⟩ hs
      · rw [if_neg ep]
        exact (h.rd p).next fun hh => ep hh.2.symm
    · rw [if_neg e]
      exact (h.rd p).next fun hh => e hh.1
  · by_cases e : (f i).k = 6
    · rw [if_pos e]
      unfold setP
      by_cases ep : p = (f i).p
      · rw [if_pos ep]; subst ep
        exact (h.wr (f i).p).touch ⟨e, rfl⟩ hs
      · rw [if_neg ep]
        exact (h.wr p).next fun hh => ep hh.2.symm
    · rw [if_neg e]
      exact (h.wr p).next fun hh => e hh.1
end
/-- The clocks after the first i accesses. -/
def vcs (f : Nat → A) : Nat → Vc
  | 0 => zero
  | i + 1 => record (vcs f i) (f i) (setN (known (vcs f i) (f i)) (f i).t.toNat ((i : Int) + 1))
theorem vcs_inv {f : Nat → A} {i : Nat} (hb : ∀ j, j < i → 0 ≤ (f j).t ∧ (f j).t ≤ 63) : Inv f i (vcs f i) := by
  induction i with
  | zero => exact Inv.zero
  | succ i ih => exact (ih fun j hj => hb j (by omega)).step fun j hj => hb j (by omega)
/-! What one access reaches: the program's way. -/
/-- Is access b reached from a? -/
inductive Rch (f : Nat → A) (a : Nat) : Nat → Prop
  | self : Rch f a a
  | step {b c : Nat} : Rch f a b → b < c → Rt (f b) (f c) → Rch f a c
theorem rch_hb {f : Nat → A} {a b : Nat} : Rch f a b ↔ a = b ∨ Hb f a b := by
  constructor
  · intro h
    induction h with
    | self => exact .inl rfl
    | step _ l r ih => exact .inr (hb_last.2 ⟨_, l, r, ih⟩)
  · rintro (rfl | h)
    · exact .self
    · induction h with
      | one l r => exact .step .self l r
      | add _ l r ih => exact .step ih l r
end RcM
end Go.Proofs.Ytalclmfnalmphaa
