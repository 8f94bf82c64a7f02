/- Layer 24: sets; what some accesses reach: add, precedes. -/
import Derived.Test.YtalclmfnalmphaaRacH
set_option linter.unusedVariables false
set_option linter.unusedSimpArgs false
set_option maxRecDepth 100000
namespace Go.Proofs.Ytalclmfnalmphaa
open Go.ChangeShapes Go.WideShapes Go.ChangeAt Go.RowKit Go.Mtl Go.Lib
namespace Rc
open RcM
/-- A set of integers, as a map. -/
def St (w : World) (m : Nat) (q : Int → Prop) : Prop := ∃ g, MapI w m g ∧ (∀ k v, g k = some v → v = .agg #[]) ∧ ∀ k, (g k).isSome = true ↔ q k
section
variable {w w' : World} {m : Nat} {q z : Int → Prop}
theorem St.lt (H : St w m q) : m < w.heap.size := by obtain ⟨g, h, _⟩ := H; exact h.lt
theorem St.keep (H : St w m q) (h : w'.heap[m]? = w.heap[m]?) : St w' m q := by obtain ⟨g, h1, h2⟩ := H; exact ⟨g, h1.keep h, h2⟩
theorem St.next (H : St w m q) (hb : Below w.heap.size w w') : St w' m q := H.keep (hb.block m H.lt)
theorem St.as (H : St w m q) (h : ∀ k, q k ↔ z k) : St w m z := by obtain ⟨g, h1, h2, h3⟩ := H; exact ⟨g, h1, h2, fun k => (h3 k).trans (h k)⟩
theorem St.new {w : World} {m : Nat} (H : MapI w m fun _ => none) : St w m fun _ => False := ⟨_, H, fun _ _ h => (nomatch h), fun _ => ⟨fun h => (nomatch h), fun h => h.elim⟩⟩
end
theorem set_is : Try.prog.underlying 50 = some (.map 3 60) := by kernel_rfl
theorem unit_info : (Try.prog.info? 60).map (fun i => (i.zero, i.size)) = some (some (.agg #[]), 0) := by kernel_rfl
theorem unit_zero (w : World) : (zeroValue 60).run Try.prog w = .ok (.agg #[]) w := (zero_of_info unit_info).1 w
open Classical in
theorem St.has {w : World} {m : Nat} {q : Int → Prop} (H : St w m q) (k : Int) : (Instr.lookup 50 (.map (some m)) (.int .i64 k) true).run Try.prog w = .ok (.tuple #[.agg #[], .bool (decide (q k))]) w := by
  obtain ⟨g, h1, h2, h3⟩ := H
  have := h1.look_ok set_is Try.underlying3 unit_zero k
  rw [this]
  have e1 : (g k).getD (.agg #[]) = .agg #[] := by
    cases hg : g k with
    | none => rfl
    | some v => exact h2 k v hg
  have e2 : (g k).isSome = decide (q k) := by rw [Bool.eq_iff_iff, decide_eq_true_iff]; exact h3 k
  rw [e1, e2]
theorem St.put {w : World} {m : Nat} {q : Int → Prop} (H : St w m q) (k : Int) : ∃ w', (Instr.mapUpdate 50 (.map (some m)) (.int .i64 k) (.agg #[])).run Try.prog w = .ok () w' ∧ St w' m (fun j => q j ∨ j = k) ∧ Only (· = m) w w' := by
  obtain ⟨g, h1, h2, h3⟩ := H
  obtain ⟨w', r1, r2, r3⟩ := h1.put set_is Try.underlying3 k (.agg #[])
  refine ⟨w', r1, ⟨_, r2, fun j v h => ?_, fun j => ?_⟩, r3⟩
  · by_cases e : j = k
    · rw [if_pos e] at h; exact (Option.some.inj h).symm
    · rw [if_neg e] at h; exact h2 j v h
  · by_cases e : j = k
    · rw [if_pos e]; exact ⟨fun _ => .inr e, fun _ => rfl⟩
    · rw [if_neg e, h3]; exact ⟨.inl, fun h => h.resolve_right e⟩
theorem sadd_any {w : World} {m : Nat} {q : Int → Prop} (H : St w m q) (k : Int) : Calls Try.prog 23 #[.map (some m), .int .i64 k] w fun e w' => e = .returned (.tuple #[]) ∧ St w' m (fun j => q j ∨ j = k) ∧ Only (· = m) w w' := by
  obtain ⟨w4, r1, r2, r3⟩ := H.put k
  have HR1 := Lib.hid r1
  have HR2 := Lib.hid r2
  have HR3 := Lib.hid r3
  clear r1 r2 r3 H
  go_in
  go_wp2_with (refine at_put ?_; refine wpList_map_put rfl 50 (.tmp 4) (.tmp 5) (.tmp 6) rfl m k _ rfl rfl rfl HR1.out ?_)
  go_end0
  exact ⟨rfl, HR2.out, HR3.out⟩
open Classical in
theorem shas_any {w : World} {m : Nat} {q : Int → Prop} (H : St w m q) (k : Int) : Calls Try.prog 24 #[.map (some m), .int .i64 k] w fun e w' => e = .returned (.bool (decide (q k))) ∧ Below w.heap.size w w' := by
  have hl := H.has k
  have hz := unit_zero
  go_in
  go_wp2_with fail
  go_ret
  exact ⟨rfl, below_box _ _⟩
/-- What the accesses q did: their threads, what they unlocked, what they stored. -/
structure Re (w : World) (a b c : Nat) (f : Nat → A) (q : Nat → Prop) : Prop where
  th : St w a fun t => ∃ s, q s ∧ (f s).t = t
  un : St w b fun p => ∃ s, q s ∧ (f s).k = 2 ∧ (f s).p = p
  st : St w c fun p => ∃ s, q s ∧ (f s).k = 4 ∧ (f s).p = p
  nd : a ≠ b ∧ a ≠ c ∧ b ≠ c
section
variable {w w' : World} {a b c : Nat} {f : Nat → A} {q z : Nat → Prop}
theorem Re.next (H : Re w a b c f q) (hb : Below w.heap.size w w') : Re w' a b c f q := ⟨H.th.next hb, H.un.next hb, H.st.next hb, H.nd⟩
theorem Re.drew (H : Re w a b c f q) : Re w.drew a b c f q := ⟨H.th.keep rfl, H.un.keep rfl, H.st.keep rfl, H.nd⟩
theorem Re.as (H : Re w a b c f q) (h : ∀ s, q s ↔ z s) : Re w a b c f z := by
  obtain rfl : q = z := funext fun s => propext (h s)
  exact H
abbrev reA (a b c : Nat) : Array Value := #[.map (some a), .map (some b), .map (some c)]
end
set_option maxHeartbeats 2000000 in
theorem radd_any {w : World} {a b c : Nat} {f : Nat → A} {q : Nat → Prop} (H : Re w a b c f q) (i : Nat) (x : A) (hx : f i = x) : Calls Try.prog 17 #[.agg (reA a b c), .agg (acc x)] w fun e w' => e = .returned (.tuple #[]) ∧ Re w' a b c f (fun s => q s ∨ s = i) ∧ Only (fun j => j = a ∨ j = b ∨ j = c) w w' := by
  obtain ⟨t, k, pl⟩ := x
  have hb1 : Below w.heap.size w ((w.alloc (.cells (reA a b c) 52)).alloc (.cells (acc ⟨t, k, pl⟩) 32)) := ((Below.refl _ w).alloc (Nat.le_refl _) _).alloc (by simp) _
  have HB1 := Lib.hid hb1
  have HR1 := Lib.hid (H.next hb1)
  have HX1 := Lib.hid (Blk.box1 w (.cells (reA a b c) 52) (acc ⟨t, k, pl⟩) 32)
  have HS1 := Lib.hid ((Blk.box w (reA a b c) 52).alloc (.cells (acc ⟨t, k, pl⟩) 32))
  have HF := Lib.hid hx
  have HLT : Hid (a < w.heap.size ∧ b < w.heap.size ∧ c < w.heap.size) := ⟨H.th.lt, H.un.lt, H.st.lt⟩
  clear H hb1 hx
  go_in
  go_wp2_with fail
  go_at_call 23
  refine (sadd_any HR1.out.th t).mono ?_
  rintro e w2 ⟨rfl, h2, ho2⟩
  have HT2 : Hid (St w2 a fun t => ∃ s, (q s ∨ s = i) ∧ (f s).t = t) := h2.as fun j => by
    constructor
    · rintro (⟨s, h, e⟩ | rfl)
      · exact ⟨s, .inl h, e⟩
      · exact ⟨i, .inr rfl, by rw [HF.out]⟩
    · rintro ⟨s, h | rfl, e⟩
      · exact .inl ⟨s, h, e⟩
      · exact .inr (by rw [← e, HF.out])
  have HO2 := Lib.hid (Only.of_below (O := fun j => j = a ∨ j = b ∨ j = c) HB1.out)
  have HO3 := Lib.hid (HO2.out.trans (ho2.mono (O' := fun j => j = a ∨ j = b ∨ j = c) fun j e => .inl e) fun j e => .inl e)
  have HU2 : Hid (St w2 b fun p => ∃ s, q s ∧ (f s).k = 2 ∧ (f s).p = p) := HR1.out.un.keep (ho2.block b HR1.out.un.lt fun e => HR1.out.nd.1 e.symm)
  have HV2 : Hid (St w2 c fun p => ∃ s, q s ∧ (f s).k = 4 ∧ (f s).p = p) := HR1.out.st.keep (ho2.block c HR1.out.st.lt fun e => HR1.out.nd.2.1 e.symm)
  have hn0 : w.heap.size ≠ a := by have := HLT.out.1; omega
  have hn1 : w.heap.size + 1 ≠ a := by have := HLT.out.1; omega
  have HX2 := Lib.hid (HX1.out.only ho2 hn1)
  have HS2 := Lib.hid (HS1.out.only ho2 hn0)
  have HND := Lib.hid HR1.out.nd
  have no : ∀ n : Int, k ≠ n → ∀ p : Int, (∃ s, q s ∧ (f s).k = n ∧ (f s).p = p) ↔ ∃ s, (q s ∨ s = i) ∧ (f s).k = n ∧ (f s).p = p := fun n hn p => by
    constructor
    · rintro ⟨s, h, e⟩; exact ⟨s, .inl h, e⟩
    · rintro ⟨s, h | rfl, e⟩
      · exact ⟨s, h, e⟩
      · rw [HF.out] at e; exact absurd e.1 hn
  have yes : ∀ n : Int, k = n → ∀ p : Int, ((∃ s, q s ∧ (f s).k = n ∧ (f s).p = p) ∨ p = pl) ↔ ∃ s, (q s ∨ s = i) ∧ (f s).k = n ∧ (f s).p = p := fun n hn p => by
    constructor
    · rintro (⟨s, h, e⟩ | rfl)
      · exact ⟨s, .inl h, e⟩
      · exact ⟨i, .inr rfl, by rw [HF.out]; exact ⟨hn, rfl⟩⟩
    · rintro ⟨s, h | rfl, e⟩
      · exact .inl ⟨s, h, e⟩
      · rw [HF.out] at e; exact .inr e.2.symm
  have NO := Lib.hid no
  have YES := Lib.hid yes
  have y1 := HX2.out.cell 1 _ rfl
  have y2 := HX2.out.cell 2 _ rfl
  have s1 := HS2.out.cell 1 _ rfl
  have s2 := HS2.out.cell 2 _ rfl
  clear h2 ho2 hn0 hn1 HR1 HX1 HS1 no yes
  by_cases k2 : k = 2
  · subst k2
    go_wp2_with fail
    go_at_call 23
    refine (sadd_any HU2.out pl).mono ?_
    rintro e w3 ⟨rfl, h3, ho3⟩
    have HQ : Hid (Re w3 a b c f (fun s => q s ∨ s = i)) := ⟨HT2.out.keep (ho3.block a HT2.out.lt HND.out.1), h3.as (YES.out 2 rfl), (HV2.out.keep (ho3.block c HV2.out.lt fun e => HND.out.2.2 e.symm)).as (NO.out 4 (by decide)), HND.out⟩
    have HO := Lib.hid (HO3.out.trans (ho3.mono (O' := fun j => j = a ∨ j = b ∨ j = c) fun j e => .inr (.inl e)) fun j e => .inl e)
    clear h3 ho3
    go_wp2_with fail
    go_end0
    exact ⟨rfl, HQ.out, HO.out⟩
  by_cases k4 : k = 4
  · subst k4
    go_wp2_with fail
    go_at_call 23
    refine (sadd_any HV2.out pl).mono ?_
    rintro e w3 ⟨rfl, h3, ho3⟩
    have HQ : Hid (Re w3 a b c f (fun s => q s ∨ s = i)) := ⟨HT2.out.keep (ho3.block a HT2.out.lt HND.out.2.1), (HU2.out.keep (ho3.block b HU2.out.lt HND.out.2.2)).as (NO.out 2 (by decide)), h3.as (YES.out 4 rfl), HND.out⟩
    have HO := Lib.hid (HO3.out.trans (ho3.mono (O' := fun j => j = a ∨ j = b ∨ j = c) fun j e => .inr (.inr e)) fun j e => .inl e)
    clear h3 ho3
    go_wp2_with fail
    go_end0
    exact ⟨rfl, HQ.out, HO.out⟩
  · have HQ : Hid (Re w2 a b c f (fun s => q s ∨ s = i)) := ⟨HT2.out, HU2.out.as (NO.out 2 k2), HV2.out.as (NO.out 4 k4), HND.out⟩
    have d2 : (k == 2) = false := by simpa using k2
    have d4 : (k == 4) = false := by simpa using k4
    clear k2 k4
    go_wp2_with fail
    go_end0
    exact ⟨rfl, HQ.out, HO3.out⟩
open Classical in
/-- Does one of them come right ahead of x? -/
noncomputable def preB (f : Nat → A) (q : Nat → Prop) (x : A) : Bool := decide (∃ s, q s ∧ Rt (f s) x)
open Classical in
theorem pre_is (f : Nat → A) (q : Nat → Prop) (t k p : Int) : preB f q ⟨t, k, p⟩ = (decide (∃ s, q s ∧ (f s).t = t) || (if k = 1 then decide (∃ s, q s ∧ (f s).k = 2 ∧ (f s).p = p) else if k = 3 ∨ k = 4 then decide (∃ s, q s ∧ (f s).k = 4 ∧ (f s).p = p) else false)) := by
  unfold preB
  rw [Bool.eq_iff_iff, Bool.or_eq_true, decide_eq_true_iff, decide_eq_true_iff]
  constructor
  · rintro ⟨s, h1, h2 | ⟨h2, h3⟩⟩
    · exact .inl ⟨s, h1, h2⟩
    · right
      dsimp only at h2 h3
      split
      · exact decide_eq_true ⟨s, h1, by omega, h2⟩
      split
      · exact decide_eq_true ⟨s, h1, by omega, h2⟩
      · omega
  · rintro (⟨s, h1, h2⟩ | h)
    · exact ⟨s, h1, .inl h2⟩
    · split at h
      · obtain ⟨s, h1, h2, h3⟩ := of_decide_eq_true h
        exact ⟨s, h1, .inr ⟨h3, .inl ⟨h2, by assumption⟩⟩⟩
      split at h
      · obtain ⟨s, h1, h2, h3⟩ := of_decide_eq_true h
        exact ⟨s, h1, .inr ⟨h3, .inr ⟨h2, by dsimp only; omega⟩⟩⟩
      · cases h
open Classical in
set_option maxHeartbeats 2000000 in
theorem pre_any {w : World} {a b c : Nat} {f : Nat → A} {q : Nat → Prop} (H : Re w a b c f q) (x : A) : Calls Try.prog 18 #[.agg (reA a b c), .agg (acc x)] w fun e w' => e = .returned (.bool (preB f q x)) ∧ Below w.heap.size w w' := by
  obtain ⟨t, k, pl⟩ := x
  have HP := Lib.hid (pre_is f q t k pl)
  have hb1 : Below w.heap.size w ((w.alloc (.cells (reA a b c) 52)).alloc (.cells (acc ⟨t, k, pl⟩) 32)) := ((Below.refl _ w).alloc (Nat.le_refl _) _).alloc (by simp) _
  have HB1 := Lib.hid hb1
  have HR1 := Lib.hid (H.next hb1)
  have HX1 := Lib.hid (Blk.box1 w (.cells (reA a b c) 52) (acc ⟨t, k, pl⟩) 32)
  have HS1 := Lib.hid ((Blk.box w (reA a b c) 52).alloc (.cells (acc ⟨t, k, pl⟩) 32))
  clear H hb1
  go_in
  go_wp2_with fail
  go_at_call 24
  refine (shas_any HR1.out.th t).mono ?_
  rintro e w2 ⟨rfl, hb2⟩
  have HB2 := Lib.hid (HB1.out.trans (hb2.mono HB1.out.size))
  have HR2 := Lib.hid (HR1.out.next hb2)
  have HX2 := Lib.hid (HX1.out.next hb2)
  have HS2 := Lib.hid (HS1.out.next hb2)
  have y1 := HX2.out.cell 1 _ rfl
  have y2 := HX2.out.cell 2 _ rfl
  have s1 := HS2.out.cell 1 _ rfl
  have s2 := HS2.out.cell 2 _ rfl
  clear hb2 HB1 HR1 HX1 HS1
  cases hT : decide (∃ s, q s ∧ (f s).t = t) with
  | true =>
    have HF : Hid (preB f q ⟨t, k, pl⟩ = true) := by show _ = _; rw [HP.out, hT]; rfl
    clear hT
    go_wp2_with fail
    go_ret
    exact ⟨by rw [HF.out]; rfl, HB2.out⟩
  | false =>
    by_cases k1 : k = 1
    · subst k1
      have HF : Hid (preB f q ⟨t, 1, pl⟩ = decide (∃ s, q s ∧ (f s).k = 2 ∧ (f s).p = pl)) := by show _ = _; rw [HP.out, hT, Bool.false_or, if_pos rfl]
      clear hT
      go_wp2_with fail
      go_at_call 24
      refine (shas_any HR2.out.un pl).mono ?_
      rintro e w3 ⟨rfl, hb3⟩
      have HB3 := Lib.hid (HB2.out.trans (hb3.mono HB2.out.size))
      clear hb3
      go_wp2_with fail
      go_ret
      exact ⟨by rw [HF.out]; rfl, HB3.out⟩
    by_cases k3 : k = 3
    · subst k3
      have HF : Hid (preB f q ⟨t, 3, pl⟩ = decide (∃ s, q s ∧ (f s).k = 4 ∧ (f s).p = pl)) := by show _ = _; rw [HP.out, hT, Bool.false_or, if_neg k1, if_pos (.inl rfl)]
      clear hT k1
      go_wp2_with fail
      go_at_call 24
      refine (shas_any HR2.out.st pl).mono ?_
      rintro e w3 ⟨rfl, hb3⟩
      have HB3 := Lib.hid (HB2.out.trans (hb3.mono HB2.out.size))
      clear hb3
      go_wp2_with fail
      go_ret
      exact ⟨by rw [HF.out]; rfl, HB3.out⟩
    by_cases k4 : k = 4
    · subst k4
      have HF : Hid (preB f q ⟨t, 4, pl⟩ = decide (∃ s, q s ∧ (f s).k = 4 ∧ (f s).p = pl)) := by show _ = _; rw [HP.out, hT, Bool.false_or, if_neg k1, if_pos (.inr rfl)]
      clear hT k1 k3
      go_wp2_with fail
      go_at_call 24
      refine (shas_any HR2.out.st pl).mono ?_
      rintro e w3 ⟨rfl, hb3⟩
      have HB3 := Lib.hid (HB2.out.trans (hb3.mono HB2.out.size))
      clear hb3
      go_wp2_with fail
      go_ret
      exact ⟨by rw [HF.out]; rfl, HB3.out⟩
    · have HF : Hid (preB f q ⟨t, k, pl⟩ = false) := by show _ = _; rw [HP.out, hT, Bool.false_or, if_neg k1, if_neg (by rintro (e | e); exact k3 e; exact k4 e)]
      have d1 : (k == 1) = false := by simpa using k1
      have d3 : (k == 3) = false := by simpa using k3
      have d4 : (k == 4) = false := by simpa using k4
      clear hT k1 k3 k4
      go_wp2_with fail
      go_ret
      exact ⟨by rw [HF.out]; rfl, HB2.out⟩
end Rc
end Go.Proofs.Ytalclmfnalmphaa
