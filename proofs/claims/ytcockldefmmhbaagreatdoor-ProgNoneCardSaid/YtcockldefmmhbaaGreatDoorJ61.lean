/- Several texts of this proof in one file, each in its own namespace. -/
import Derived.Test.YtcockldefmmhbaaGreatDoorJ60
/- Layer 21, plain mathematics: what each act keeps, the rest; all of them; a step. -/
set_option linter.unusedVariables false
set_option linter.unusedSimpArgs false
namespace Go.Proofs.YtcockldefmmhbaaGreatDoor
namespace Pg
open MemM (Ms lookV loadS swapB swapS holdV lockB lockS unlockS unlockV touchS moreS has at_)
open RulM (R)
open MatM (K fst accB)
open AutM (Ke)
open Tb (sOf heldB upd)
open TabM (find Oks)
section
variable {C : Cf} {S S' S2 : Sh} {r r' : Rn}
variable (G : Gi C S) (hb : Bas C r)
include G hb
theorem a_leave (ha : r.at_ = .leave) (h : r.mu = -1 ∧ Hd S r ∧ (r.q = 1 ∧ So C r ∧ Go S r ∨ Sw C r ∧ Ks C S r)) (hcnt : (S.fs.length : Int) + 1 ≤ kG (lookV S.ms 0)) : Asp C S r (leaveA S r).1 (leaveA S r).2 := by
  have hx0 : hx C r = (r.st : Int) := by unfold hx; rw [ha]
  have hp0 : pend r = 1 := by unfold pend; rw [ha]
  unfold leaveA
  cases hsw : swapB S.ms 0 r.wg with
  | true =>
    rw [if_pos rfl]
    obtain ⟨e0, e1⟩ := gate_sw (S := S) (r := r) (x := leaveW r.wg) hsw
    have hk1 : kG (leaveW r.wg) = kG r.wg - 1 := by
      unfold leaveW
      rw [if_neg (by rw [e0] at hcnt; omega)]
      exact (wG (fit_leave hb.wg (by rw [e0] at hcnt; omega))).2.2.1
    have G1 := Gi.gate (r := r) G (w_leave hb.wg) (by rw [hk1]; have := G.le; rw [e0] at this; omega) hsw
    have E := E0.say (swS S r 0 r.wg (leaveW r.wg)) r 4 r.k 0 (if r.q = 4 then 1 else 0)
    have eho : ∀ i, holdV (say (swS S r 0 r.wg (leaveW r.wg)) r 4 r.k 0 (if r.q = 4 then 1 else 0)).ms i = holdV S.ms i := fun i => hold_swap _ _
    have ecn : kG (lookV (say (swS S r 0 r.wg (leaveW r.wg)) r 4 r.k 0 (if r.q = 4 then 1 else 0)).ms 0) = kG (lookV S.ms 0) - 1 := by
      show kG (lookV (swS S r 0 r.wg (leaveW r.wg)).ms 0) = _
      rw [e1, hk1, e0]
    have key : Ri C (say (swS S r 0 r.wg (leaveW r.wg)) r 4 r.k 0 (if r.q = 4 then 1 else 0)) (goneR r) ∧ hl C (goneR r) = (r.st : Int) ∧ pend (goneR r) = 0 ∧ (goneR r).t = r.t := by
      rcases h.2.2 with ⟨h5, h6, h7⟩ | ⟨s1, s2⟩
      · rw [show goneR r = goto r .absent by unfold goneR; rw [show sweeps r.q = false by rw [h5]; rfl]; rfl]
        exact ⟨⟨⟨hb.wf, hb.wg, hb.wc, hb.k, hb.p, hb.st, hb.z, hb.tt⟩, h.1, h5, h6, by show holdV _ _ = _; rw [eho]; exact h.2.1, h7⟩, rfl, rfl, rfl⟩
      · rw [show goneR r = proceedR { r with n := IntKind.i64.wrap (r.n + 1) } by unfold goneR; rw [s1.1]; rfl]
        exact a_proceed (S := S) (r := r) rfl eho ⟨hb.wf, hb.wg, hb.wc, hb.k, hb.p, hb.st, hb.z, hb.tt⟩ rfl rfl rfl h.1 h.2.1 s1 s2
    refine ⟨E.gi G1, key.1, key.2.2.2, by show _ ≤ (swapS S.ms r.t 0 r.wg _).ws.length; rw [ws_swap]; exact Nat.le_refl _, E.pt, fun k => .inl rfl, fun i => .inl (eho i), .inr (.inl (by rw [hx0]; exact key.2.1)), ?_⟩
    rw [ecn, key.2.2.1, hp0]
    show _ - (S.fs.length : Int) - _ = _
    omega
  | false =>
    rw [if_neg (by simp)]
    have E := E0.sw S r 0 r.wg (leaveW r.wg) (w_leave hb.wg) (.inr hsw)
    exact Asp.of G E ⟨⟨hb.wf, hb.wg, hb.wc, hb.k, hb.p, hb.st, hb.z, hb.tt⟩, h.1, h.2.1.of E rfl rfl, h.2.2.imp (fun x => ⟨x.1, x.2.1, x.2.2.of E rfl⟩) fun x => ⟨x.1, x.2.of E rfl rfl⟩⟩ rfl (.inr hx0.symm) (by rw [hp0]; rfl)
omit G hb in
theorem admit_one {r : Rn} {l : List R} (h : admitV C r l = 1) : enterB C.N r.wg = true := by
  unfold admitV at h
  split at h
  · omega
  split at h
  · omega
  split at h
  · omega
  · rename_i h3; simpa using h3
omit G hb in
theorem admit_bd (r : Rn) (l : List R) : 1 ≤ admitV C r l ∧ admitV C r l ≤ 5 := by
  unfold admitV
  split
  · omega
  split
  · omega
  split <;> omega
theorem a_absent (ha : r.at_ = .absent) (h : r.mu = -1 ∧ r.q = 1 ∧ So C r ∧ Hd S r ∧ Go S r) : Asp C S r (absentA C S r).1 (absentA C S r).2 := by
  have E := (E0.ld S r 0).trans (E0.touch (ldS S r 0) r 5 ((C.n : Int) + vG (ldG S r).wg))
  have hx0 : hx C r = (r.st : Int) := by unfold hx; rw [ha]
  have hp0 : pend r = 0 := by unfold pend; rw [ha]
  unfold absentA absentR
  split
  · rename_i h1
    exact Asp.of G E ⟨⟨hb.wf, word_of G.ok _, hb.wc, hb.k, hb.p, hb.st, hb.z, hb.tt⟩, h.1, h.2.1, h.2.2.1, h.2.2.2.1.of E rfl rfl, h.2.2.2.2.of E rfl, admit_one h1⟩ rfl (.inr hx0.symm) (by rw [hp0]; rfl)
  · have E2 := E.trans (E0.say _ (ldG S r) 2 (ldG S r).k (admitV C (ldG S r) ((ldS S r 0).rl (vG (ldG S r).wg))) 0)
    exact Asp.of G E2 ⟨⟨hb.wf, word_of G.ok _, hb.wc, hb.k, hb.p, hb.st, hb.z, hb.tt⟩, h.1, h.2.2.2.1.of E2 rfl rfl, admit_bd _ _⟩ rfl (.inr hx0.symm) (by rw [hp0]; rfl)
theorem a_enter (ha : r.at_ = .enter) (h : r.mu = -1 ∧ r.q = 1 ∧ So C r ∧ Hd S r ∧ Go S r ∧ enterB C.N r.wg = true) (hroom : (S.ms.ws.length : Int) < 1000000000000) : Asp C S r (enterA C S r).1 (enterA C S r).2 := by
  have hx0 : hx C r = (r.st : Int) := by unfold hx; rw [ha]
  have hp0 : pend r = 0 := by unfold pend; rw [ha]
  obtain ⟨h1, h2, h3, h4, h5, h6⟩ := h
  have hkw : kG (enterW C.N r.wg) = kG r.wg + 1 := by
    unfold enterW
    rw [if_pos h6]
    exact (wG (fit_enter hb.wg h6)).2.2.1
  have hN : ¬ C.N ≤ kG r.wg := (of_decide_eq_true h6).1
  unfold enterA
  cases hsw : swapB S.ms 0 r.wg with
  | false =>
    rw [if_neg (by simp)]
    have E := E0.sw S r 0 r.wg (enterW C.N r.wg) (w_enter hb.wg _) (.inr hsw)
    exact Asp.of G E ⟨⟨hb.wf, hb.wg, hb.wc, hb.k, hb.p, hb.st, hb.z, hb.tt⟩, h1, h2, h3, h4.of E rfl rfl, h5.of E rfl⟩ rfl (.inr hx0.symm) (by rw [hp0]; rfl)
  | true =>
    rw [if_pos rfl]
    obtain ⟨e0, e1⟩ := gate_sw (S := S) (r := r) (x := enterW C.N r.wg) hsw
    have G1 := Gi.gate (r := r) G (w_enter hb.wg C.N) (by rw [hkw]; omega) hsw
    obtain ⟨nw, hnw⟩ : ∃ z, nextW 0 r.tn (untilN C r) = z := ⟨_, rfl⟩
    have hw : W64 nw := hnw ▸ w_next ⟨by omega, by omega⟩ _ _
    rw [hnw]
    obtain ⟨S1, hS1⟩ : ∃ z, swS S r 0 r.wg (enterW C.N r.wg) = z := ⟨_, rfl⟩
    have f1 : S1.fs = S.fs := by rw [← hS1]; rfl
    have w1 : S1.ms.ws.length = S.ms.ws.length := by rw [← hS1]; exact ws_swap _ _
    have p1 : S1.pts = S.pts := by rw [← hS1]; rfl
    have o1 : ∀ i, holdV S1.ms i = holdV S.ms i := fun i => by rw [← hS1]; exact hold_swap _ _
    rw [hS1] at G1 e1 ⊢
    have hhb : hasB C (mewS S1 nw) r = true := has_of hb (by show holdV S1.ms _ = _; rw [o1]; exact h4) h3
    have hput : putS C (mewS S1 nw) r (S1.ms.ws.length : Int) = { { (mewS S1 nw) with ms := touchS (mewS S1 nw).ms r.t 6 ((sOf C.n r.k : Nat) : Int) } with fs := TabM.ins ⟨r.k, (S1.ms.ws.length : Int), r.dn⟩ S.fs } := by
      unfold putS
      rw [hhb, if_pos rfl]
      rw [show (mewS S1 nw).fs = S.fs from f1, Tb.upd_none (show find (⟨r.k, (S1.ms.ws.length : Int), r.dn⟩ : TabM.Fl).k S.fs = none from h5)]
    rw [hput]
    have hfl : (⟨r.k, (S1.ms.ws.length : Int), r.dn⟩ : TabM.Fl).Ok := ⟨hb.k, by show -9223372036854775808 ≤ (S1.ms.ws.length : Int); omega, by show (S1.ms.ws.length : Int) ≤ 9223372036854775807; rw [w1]; omega⟩
    have hw6 := G.ws
    have hst : (touchS (moreS S1.ms nw) r.t 6 ((sOf C.n r.k : Nat) : Int)).ws.length = S.ms.ws.length + 1 := by rw [ws_touch]; simp [moreS, w1]
    have hlk : lookV (touchS (moreS S1.ms nw) r.t 6 ((sOf C.n r.k : Nat) : Int)) 0 = enterW C.N r.wg := by rw [look_touch, look_more nw (by rw [w1]; omega)]; exact e1
    have hho : ∀ i, holdV (touchS (moreS S1.ms nw) r.t 6 ((sOf C.n r.k : Nat) : Int)) i = holdV S.ms i := fun i => by rw [hold_touch, hold_more]; exact o1 i
    refine ⟨⟨(G1.ok.more hw (by rw [w1]; omega)).touch _ _ _, G.oks.ins hfl h5, hs_touch _ |>.trans G1.hs, ?_, ?_, ?_⟩, ⟨⟨hb.wf, hb.wg, hb.wc, hb.k, hb.p, hb.st, hb.z, hb.tt⟩, h1, ?_, by show (1 : Int) ≤ 1; omega, by show (1 : Int) ≤ 5; omega⟩, rfl, ?_, ?_, fun k => ?_, fun i => .inl (hho i), .inr (.inl hx0.symm), ?_⟩
    · show 6 ≤ (touchS (moreS S1.ms nw) r.t 6 ((sOf C.n r.k : Nat) : Int)).ws.length
      rw [hst]; omega
    · show ∀ f ∈ TabM.ins ⟨r.k, (S1.ms.ws.length : Int), r.dn⟩ S.fs, 6 ≤ f.x ∧ f.x < ((touchS (moreS S1.ms nw) r.t 6 ((sOf C.n r.k : Nat) : Int)).ws.length : Int)
      rw [hst]
      intro f hf
      rcases TabM.mem_ins.1 hf with rfl | hf
      · show 6 ≤ (S1.ms.ws.length : Int) ∧ (S1.ms.ws.length : Int) < _
        rw [w1]; omega
      · have := G.wds f hf; omega
    · show kG (lookV (touchS (moreS S1.ms nw) r.t 6 ((sOf C.n r.k : Nat) : Int)) 0) ≤ _
      rw [hlk, hkw]; omega
    · show holdV (touchS (moreS S1.ms nw) r.t 6 ((sOf C.n r.k : Nat) : Int)) _ = _
      rw [hho]; exact h4
    · show S.ms.ws.length ≤ (touchS (moreS S1.ms nw) r.t 6 ((sOf C.n r.k : Nat) : Int)).ws.length
      rw [hst]; omega
    · show S.pts.length ≤ (S1.pts ++ _).length
      rw [p1]; simp
    · by_cases e : k = r.k
      · subst e; exact .inr (by rw [h3]; exact h4)
      · refine .inl ?_
        show find k (TabM.ins ⟨r.k, (S1.ms.ws.length : Int), r.dn⟩ S.fs) = _
        have hperm := TabM.ins_perm ⟨r.k, (S1.ms.ws.length : Int), r.dn⟩ S.fs
        have hok := G.oks.ins hfl h5
        cases hf : find k S.fs with
        | some f =>
          obtain ⟨m1, m2⟩ := TabM.find_some hf
          have := hok.find_of (TabM.mem_ins.2 (.inr m1))
          rw [m2] at this; exact this
        | none =>
          cases hf2 : find k (TabM.ins ⟨r.k, (S1.ms.ws.length : Int), r.dn⟩ S.fs) with
          | none => rfl
          | some f =>
            obtain ⟨m1, m2⟩ := TabM.find_some hf2
            rcases TabM.mem_ins.1 m1 with rfl | m1
            · exact absurd m2.symm e
            · exact absurd m2 (TabM.find_none hf f m1)
    · show kG (lookV (touchS (moreS S1.ms nw) r.t 6 ((sOf C.n r.k : Nat) : Int)) 0) - ((TabM.ins ⟨r.k, (S1.ms.ws.length : Int), r.dn⟩ S.fs).length : Int) - 0 = _
      rw [hlk, hkw, TabM.len_ins, hp0, e0]
      omega
omit hb in
theorem a_counted (E : E0 S S') (hx0 : hx C r = -1) (hp0 : pend r = 0) (hr' : Bas C r') (hm : r'.mu = -1) (ht : r'.t = r.t) : Asp C S r (countedA S' r').1 (countedA S' r').2 :=
  Asp.of G ((E.trans (E0.say S' r' 3 k0 r'.v 0)).trans (E0.say _ r' 8 k0 r'.v r'.n)) ⟨⟨hr'.wf, hr'.wg, hr'.wc, hr'.k, hr'.p, hr'.st, hr'.z, hr'.tt⟩, hm⟩ ht (.inl hx0) (by rw [hp0]; rfl)
omit hb in
theorem a_end (E : E0 S S') (hx0 : hx C r = -1) (hp0 : pend r = 0) (hr' : Bas C r') (hm : r'.mu = -1) (ht : r'.t = r.t) : Asp C S r (endA S' r').1 (endA S' r').2 :=
  Asp.of G (E.trans (E0.say S' r' 8 k0 r'.v r'.n)) ⟨⟨hr'.wf, hr'.wg, hr'.wc, hr'.k, hr'.p, hr'.st, hr'.z, hr'.tt⟩, hm⟩ ht (.inl hx0) (by rw [hp0]; rfl)
omit hb in
theorem a_count' (E : E0 S S') (hx0 : hx C r = -1) (hp0 : pend r = 0) (hr' : Bas C r') (hm : r'.mu = -1) (ht : r'.t = r.t) (hv : 1 ≤ r'.v ∧ r'.v ≤ 5) : Asp C S r (countA S' r').1 (countA S' r').2 := by
  have E2 := E.trans (E0.ld S' r' r'.v)
  have hbs : Bas C (ldC S' r') := ⟨hr'.wf, hr'.wg, word_of (E.ok G.ok) _, hr'.k, hr'.p, hr'.st, hr'.z, hr'.tt⟩
  unfold countA
  split
  · exact a_counted G E2 hx0 hp0 hbs hm ht
  · exact Asp.of G E2 ⟨⟨hbs.wf, hbs.wg, hbs.wc, hbs.k, hbs.p, hbs.st, hbs.z, hbs.tt⟩, hm, hv⟩ ht (.inl hx0) (by rw [hp0]; rfl)
theorem a_count (ha : r.at_ = .count) (h : r.mu = -1 ∧ 1 ≤ r.v ∧ r.v ≤ 5) : Asp C S r (countA S r).1 (countA S r).2 :=
  a_count' G (E0.refl S) (by unfold hx; rw [ha]) (by unfold pend; rw [ha]) hb h.1 rfl h.2
theorem a_malformed (ha : r.at_ = .malformed) (h : r.mu = -1) : Asp C S r (malformedA S r).1 (malformedA S r).2 :=
  a_count' G (E0.say S r 2 k0 2 0) (by unfold hx; rw [ha]) (by unfold pend; rw [ha]) (r' := { r with v := 2 }) ⟨hb.wf, hb.wg, hb.wc, hb.k, hb.p, hb.st, hb.z, hb.tt⟩ h rfl (by show (1 : Int) ≤ 2 ∧ (2 : Int) ≤ 5; omega)
theorem a_add (ha : r.at_ = .add) (h : r.mu = -1 ∧ 1 ≤ r.v ∧ r.v ≤ 5) : Asp C S r (addA S r).1 (addA S r).2 := by
  have E := E0.sw S r r.v r.wc ((r.wc + 1) % 18446744073709551616) ⟨by omega, by omega⟩ (.inl (by omega))
  unfold addA
  split
  · exact a_counted G E (by unfold hx; rw [ha]) (by unfold pend; rw [ha]) hb h.1 rfl
  · exact Asp.of G E ⟨⟨hb.wf, hb.wg, hb.wc, hb.k, hb.p, hb.st, hb.z, hb.tt⟩, h⟩ rfl (.inl (by unfold hx; rw [ha])) (by unfold pend; rw [ha] <;> rfl)
theorem a_readClock (ha : r.at_ = .readClock) (h : r.mu = -1) : Asp C S r (readClockA S r).1 (readClockA S r).2 :=
  Asp.of G (E0.ld S r 0) ⟨⟨hb.wf, word_of G.ok _, hb.wc, hb.k, hb.p, hb.st, hb.z, hb.tt⟩, h⟩ rfl (.inl (by unfold hx; rw [ha])) (by unfold pend; rw [ha] <;> rfl)
omit hb in
/-- A swap of the gate that keeps its count. -/
theorem Asp.gate {x : Int} (hx64 : W64 x) (hk : kG x = kG r.wg) (hsw : swapB S.ms 0 r.wg = true) (E : E0 (swS S r 0 r.wg x) S') (hr : Ri C S' r') (ht : r'.t = r.t) (hh : hx C r = -1 ∨ hl C r' = hx C r) (hp : pend r' = pend r) : Asp C S r S' r' := by
  obtain ⟨e0, e1⟩ := gate_sw (S := S) (r := r) (x := x) hsw
  have G1 := Gi.gate (r := r) G hx64 (by rw [hk]; have := G.le; rw [e0] at this; exact this) hsw
  have A := Asp.of (r := r) (r' := r') G1 E hr ht hh hp
  refine ⟨A.gi, hr, ht, by have := A.ws; rwa [show (swS S r 0 r.wg x).ms.ws.length = S.ms.ws.length from ws_swap _ _] at this, A.pt, fun k => .inl (by rw [E.fs]; rfl), fun i => .inl (by rw [E.ho]; exact hold_swap _ _), hh.imp id .inl, ?_⟩
  rw [A.cnt, e1, hk, e0]; rfl
theorem a_tick (ha : r.at_ = .tick) (h : r.mu = -1) : Asp C S r (tickA S r).1 (tickA S r).2 := by
  have hx0 : hx C r = -1 := by unfold hx; rw [ha]
  have hp0 : pend r = 0 := by unfold pend; rw [ha]
  unfold tickA
  cases hsw : swapB S.ms 0 r.wg with
  | true =>
    rw [if_pos rfl]
    have E := (E0.say (swS S r 0 r.wg (tickW r.wg r.z)) r 5 k0 0 r.z).trans (E0.say _ { r with n := Ga.later (cG r.wg) r.z } 8 k0 r.v (Ga.later (cG r.wg) r.z))
    exact Asp.gate G (w_tick hb.wg r.z) (wG (fit_tick hb.wg r.z)).2.2.1 hsw E ⟨⟨hb.wf, hb.wg, hb.wc, hb.k, hb.p, hb.st, hb.z, hb.tt⟩, h⟩ rfl (.inl hx0) (by rw [hp0]; rfl)
  | false =>
    rw [if_neg (by simp)]
    exact Asp.of G (E0.sw S r 0 r.wg (tickW r.wg r.z) (w_tick hb.wg r.z) (.inr hsw)) ⟨⟨hb.wf, hb.wg, hb.wc, hb.k, hb.p, hb.st, hb.z, hb.tt⟩, h⟩ rfl (.inl hx0) (by rw [hp0]; rfl)
theorem a_claim (ha : r.at_ = .claim) (h : r.mu = -1 ∧ holdV S.ms (C.n : Int) = r.t) : Asp C S r (claimA S r).1 (claimA S r).2 :=
  Asp.of G (E0.refl S) ⟨⟨hb.wf, hb.wg, hb.wc, hb.k, hb.p, hb.st, hb.z, hb.tt⟩, h⟩ rfl (.inr (by unfold hx; rw [ha] <;> rfl)) (by unfold pend; rw [ha] <;> rfl)
theorem a_prepare (ha : r.at_ = .prepare) (h : r.mu = -1 ∧ holdV S.ms (C.n : Int) = r.t) : Asp C S r (prepareA C S r).1 (prepareA C S r).2 := by
  have E := E0.ld S r 0
  unfold prepareA prepareR
  split
  · exact Asp.of G E ⟨⟨hb.wf, word_of G.ok _, hb.wc, hb.k, hb.p, hb.st, hb.z, hb.tt⟩, h.1, (E.ho _).trans h.2⟩ rfl (.inr (by unfold hx; rw [ha] <;> rfl)) (by unfold pend; rw [ha] <;> rfl)
  · rename_i h1
    have E2 : E0 S (writeS C (ldS S r 0) (ldG S r)) := by
      have := E.trans (E0.touch (ldS S r 0) r 6 ((C.n : Int) + (vG (ldG S r).wg + 1)))
      exact ⟨this.ok, this.hs, this.ws, this.fs, this.pt, this.ho, this.g0⟩
    exact Asp.of G E2 ⟨⟨hb.wf, word_of G.ok _, hb.wc, hb.k, hb.p, hb.st, hb.z, hb.tt⟩, h.1, (E2.ho _).trans h.2, h1⟩ rfl (.inr (by unfold hx; rw [ha] <;> rfl)) (by unfold pend; rw [ha] <;> rfl)
theorem a_publish (ha : r.at_ = .publish) (h : r.mu = -1 ∧ holdV S.ms (C.n : Int) = r.t ∧ vG r.wg ≠ 4095) : Asp C S r (publishA S r).1 (publishA S r).2 := by
  have hk : kG (swapW r.wg) = kG r.wg := by unfold swapW; rw [if_neg h.2.2]; exact (wG (fit_swap hb.wg h.2.2)).2.2.1
  unfold publishA
  cases hsw : swapB S.ms 0 r.wg with
  | true =>
    rw [if_pos rfl]
    have E : E0 (swS S r 0 r.wg (swapW r.wg)) (say { swS S r 0 r.wg (swapW r.wg) with rl := setL S.rl (swapV r.wg - 1) [] } r 6 k0 0 (swapV r.wg)) := ⟨id, rfl, rfl, rfl, by simp [Pg.say], fun _ => rfl, rfl⟩
    exact Asp.gate G (w_swap hb.wg) hk hsw E ⟨⟨hb.wf, hb.wg, hb.wc, hb.k, hb.p, hb.st, hb.z, hb.tt⟩, h.1, (E.ho _).trans ((hold_swap _ _).trans h.2.1)⟩ rfl (.inr (by unfold hx; rw [ha] <;> rfl)) (by unfold pend; rw [ha] <;> rfl)
  | false =>
    rw [if_neg (by simp)]
    have E := E0.sw S r 0 r.wg (swapW r.wg) (w_swap hb.wg) (.inr hsw)
    exact Asp.of G E ⟨⟨hb.wf, hb.wg, hb.wc, hb.k, hb.p, hb.st, hb.z, hb.tt⟩, h.1, (E.ho _).trans h.2.1⟩ rfl (.inr (by unfold hx; rw [ha] <;> rfl)) (by unfold pend; rw [ha] <;> rfl)
/-- A mutex is freed, and the op ends. -/
theorem Asp.freeEnd {m : Int} (hm : holdV S.ms m = r.t) (hmx : hx C r = m) (hp : pend r = 0) (hr' : Bas C r') (hmu : r'.mu = -1) (ht : r'.t = r.t) : Asp C S r (endA (freeS S r m) r').1 (endA (freeS S r m) r').2 := by
  have hr : Ri C (freeS S r m) (endA (freeS S r m) r').2 := ⟨⟨hr'.wf, hr'.wg, hr'.wc, hr'.k, hr'.p, hr'.st, hr'.z, hr'.tt⟩, hmu⟩
  have A := Asp.free G hb hm hmx hr ht (by rw [hp]; rfl)
  have E := E0.say (freeS S r m) r' 8 k0 r'.v r'.n
  refine ⟨E.gi A.gi, ⟨hr.bas, hmu⟩, ht, A.ws, Nat.le_trans A.pt E.pt, A.fx, A.fr, A.hk, A.cnt⟩
theorem a_disclaim (ha : r.at_ = .disclaim) (h : r.mu = -1 ∧ holdV S.ms (C.n : Int) = r.t) : Asp C S r (disclaimA C S r).1 (disclaimA C S r).2 :=
  Asp.freeEnd G hb h.2 (by unfold hx; rw [ha]) (by unfold pend; rw [ha]) hb h.1 rfl
theorem a_stat (ha : r.at_ = .stat) (h : r.mu = -1 ∧ 1 ≤ r.z ∧ r.z ≤ 5) : Asp C S r (statA S r).1 (statA S r).2 :=
  a_end G ((E0.ld S r r.z).trans (E0.say _ r 7 k0 r.z _)) (by unfold hx; rw [ha]) (by unfold pend; rw [ha]) (r' := { r with n := IntKind.i64.wrap (lookV S.ms r.z) }) ⟨hb.wf, hb.wg, hb.wc, hb.k, hb.p, hb.st, hb.z, hb.tt⟩ h.1 rfl
theorem a_take (ha : r.at_ = .take) (h : r.mu = -1 ∧ Hd S r ∧ Sw C r) : Asp C S r (takeA C S r).1 (takeA C S r).2 := by
  have hx0 : hx C r = (r.st : Int) := by unfold hx; rw [ha]
  have hp0 : pend r = 0 := by unfold pend; rw [ha]
  have hheld : heldB S.ms r.t (r.st : Int) = true := by unfold heldB; rw [show holdV S.ms (r.st : Int) = r.t from h.2.1]; simp [hb.tt.1]
  have hk : keysL C S r = (Tb.part C.n r.st S.fs).map (·.k) := by unfold keysL; rw [if_pos ⟨h.2.2.2, hheld⟩]
  have E : E0 S (keysS C S r) := by
    unfold keysS; split
    · exact E0.touch S r 5 (r.st : Int)
    · exact E0.refl S
  have hkeys : Ks C S { r with ks := keysL C S r } := by
    rw [hk]
    refine ⟨(Tb.oks_part G.oks _ _).nodup, fun k hk => ?_⟩
    obtain ⟨f, hf, rfl⟩ := List.mem_map.1 hk
    obtain ⟨m1, m2⟩ := Tb.mem_part.1 hf
    exact ⟨(G.oks.ok f m1).k, m2, by rw [G.oks.find_of m1]; simp⟩
  have key := a_proceed (S := S) (S' := keysS C S r) (r := { r with ks := keysL C S r }) (r' := { r with ks := keysL C S r }) (C := C) E.fs E.ho ⟨hb.wf, hb.wg, hb.wc, hb.k, hb.p, hb.st, hb.z, hb.tt⟩ rfl rfl rfl h.1 h.2.1 h.2.2 hkeys
  exact Asp.of G E key.1 key.2.2.2 (.inr (by rw [hx0]; exact key.2.1)) (by rw [hp0]; exact key.2.2.1)
theorem a_visit (ha : r.at_ = .visit) (h : r.mu = -1 ∧ So C r ∧ Hd S r ∧ Sw C r ∧ Ks C S r ∧ find r.k S.fs ≠ none ∧ r.k ∉ r.ks) : Asp C S r (visitA C S r).1 (visitA C S r).2 := by
  have hx0 : hx C r = (r.st : Int) := by unfold hx; rw [ha]
  have hp0 : pend r = 0 := by unfold pend; rw [ha]
  obtain ⟨h1, h2, h3, h4, h5, h6, h7⟩ := h
  cases hf : find r.k S.fs with
  | none => exact absurd hf h6
  | some f =>
  unfold visitA
  rw [fndR_some hb h3 h2 hf]
  have E := (E0.to (C := C) S r 5).trans (E0.ld (toS C S r 5) { r with x := f.x, tu := f.dn } f.x)
  have hw := wd_of G hf
  have hbs : Bas C (ldF (toS C S r 5) { r with x := f.x, tu := f.dn }) := ⟨word_of ((E0.to (C := C) S r 5).ok G.ok) _, hb.wg, hb.wc, hb.k, hb.p, hb.st, hb.z, hb.tt⟩
  have hfe : find r.k (ldS (toS C S r 5) { r with x := f.x, tu := f.dn } f.x).fs = some f := by rw [E.fs]; exact hf
  have hwe : 6 ≤ f.x ∧ f.x < ((ldS (toS C S r 5) { r with x := f.x, tu := f.dn } f.x).ms.ws.length : Int) := by rw [E.ws]; exact hw
  split
  · exact Asp.of G E ⟨⟨hbs.wf, hbs.wg, hbs.wc, hbs.k, hbs.p, hbs.st, hbs.z, hbs.tt⟩, h1, h2, h3.of E rfl rfl, hwe, ⟨f, hfe, rfl⟩, .inr ⟨h4, h5.of E rfl rfl, h7⟩⟩ rfl (.inr hx0.symm) (by rw [hp0]; rfl)
  · exact Asp.of G E ⟨⟨hbs.wf, hbs.wg, hbs.wc, hbs.k, hbs.p, hbs.st, hbs.z, hbs.tt⟩, h1, h2, h3.of E rfl rfl, hwe, ⟨f, hfe, rfl⟩, h4, h5.of E rfl rfl, h7⟩ rfl (.inr hx0.symm) (by rw [hp0]; rfl)
theorem a_inspect (ha : r.at_ = .inspect) (h : r.mu = -1 ∧ So C r ∧ Hd S r ∧ Wd S r ∧ He S r ∧ Sw C r ∧ Ks C S r ∧ r.k ∉ r.ks) : Asp C S r (inspectA S r).1 (inspectA S r).2 := by
  have hx0 : hx C r = (r.st : Int) := by unfold hx; rw [ha]
  have hp0 : pend r = 0 := by unfold pend; rw [ha]
  obtain ⟨h1, h2, h3, h4, h5, h6, h7, h8⟩ := h
  have E := E0.ld S r 0
  unfold inspectA
  split
  · exact Asp.of G E ⟨⟨hb.wf, word_of G.ok _, hb.wc, hb.k, hb.p, hb.st, hb.z, hb.tt⟩, h1, h2, h3.of E rfl rfl, h4.of E rfl, h5.of E rfl rfl, .inr ⟨h6, h7.of E rfl rfl, h8⟩⟩ rfl (.inr hx0.symm) (by rw [hp0]; rfl)
  · have key := a_proceed (S := S) (S' := ldS S r 0) (r := r) (r' := ldG S r) (C := C) E.fs E.ho ⟨hb.wf, word_of G.ok _, hb.wc, hb.k, hb.p, hb.st, hb.z, hb.tt⟩ rfl rfl rfl h1 h3 h6 h7
    exact Asp.of G E key.1 key.2.2.2 (.inr (by rw [hx0]; exact key.2.1)) (by rw [hp0]; exact key.2.2.1)
theorem a_finish (ha : r.at_ = .finish) (h : r.mu = -1 ∧ Hd S r ∧ Sw C r) : Asp C S r (finishA C S r).1 (finishA C S r).2 := by
  have hx0 : hx C r = (r.st : Int) := by unfold hx; rw [ha]
  have hp0 : pend r = 0 := by unfold pend; rw [ha]
  have hst := h.2.2.2
  have hbs : Bas C { r with st := r.st + 1 } := ⟨hb.wf, hb.wg, hb.wc, hb.k, hb.p, hst, hb.z, hb.tt⟩
  unfold finishA
  split
  · exact Asp.freeEnd G hb h.2.1 hx0 hp0 hbs h.1 rfl
  · rename_i hne
    exact Asp.free G hb h.2.1 hx0 ⟨⟨hb.wf, hb.wg, hb.wc, hb.k, hb.p, hst, hb.z, hb.tt⟩, rfl, h.2.2.1, by show r.st + 1 < C.n; omega⟩ rfl (by rw [hp0]; rfl)
theorem a_endOp (ha : r.at_ = .endOp) (h : r.mu = -1) : Asp C S r (endA S r).1 (endA S r).2 :=
  a_end G (E0.refl S) (by unfold hx; rw [ha]) (by unfold pend; rw [ha]) hb h rfl
/-- Any act. -/
theorem act_asp (h : Pre C S r) (hcnt : (S.fs.length : Int) + pend r ≤ kG (lookV S.ms 0)) (hroom : (S.ms.ws.length : Int) < 1000000000000) : Asp C S r (actA C S r).1 (actA C S r).2 := by
  unfold Pre Inf at h
  unfold actA
  cases ha : r.at_ <;> rw [ha] at h <;> dsimp only at h ⊢
  case find => exact a_find G hb ha h
  case release => exact a_release G hb ha h
  case load => exact a_load G hb ha h
  case judge => exact a_judge G hb ha h
  case advance => exact a_advance G hb ha h
  case sure => exact a_sure G hb ha h
  case look => exact a_look G hb ha h
  case again => exact a_again G hb ha h
  case over => exact a_over G hb ha h
  case kill => exact a_kill G hb ha h
  case less => exact a_less G hb ha h
  case leave => exact a_leave G hb ha h (by unfold pend at hcnt; rw [ha] at hcnt; exact hcnt)
  case absent => exact a_absent G hb ha h
  case enter => exact a_enter G hb ha h hroom
  case unlock => exact a_unlock G hb ha h
  case malformed => exact a_malformed G hb ha h
  case count => exact a_count G hb ha h
  case add => exact a_add G hb ha h
  case readClock => exact a_readClock G hb ha h
  case tick => exact a_tick G hb ha h
  case claim => exact a_claim G hb ha h
  case prepare => exact a_prepare G hb ha h
  case publish => exact a_publish G hb ha h
  case disclaim => exact a_disclaim G hb ha h
  case stat => exact a_stat G hb ha h
  case take => exact a_take G hb ha h
  case visit => exact a_visit G hb ha h
  case inspect => exact a_inspect G hb ha h
  case finish => exact a_finish G hb ha h
  case endOp => exact a_endOp G hb ha h
  case done => exact Asp.of G (E0.refl S) ⟨hb, by unfold Inf; rw [ha]; exact h⟩ rfl (.inl (by unfold hx; rw [ha])) rfl
end
end Pg
end Go.Proofs.YtcockldefmmhbaaGreatDoor
/- Layer 21, plain mathematics: a step; many ops on one state: what always holds (WI). -/
set_option linter.unusedVariables false
set_option linter.unusedSimpArgs false
namespace Go.Proofs.YtcockldefmmhbaaGreatDoor
namespace Pg
open MemM (Ms lookV loadS swapB swapS holdV lockB lockS unlockS unlockV touchS moreS has at_)
open RulM (R)
open MatM (K fst accB)
open AutM (Ke)
open Tb (sOf heldB upd)
open TabM (find Oks)

/-! Room. -/
section
variable {n : Nat} {C : Cf} {S S' : Sh} {r r' : Rn}
theorem Rm.rl (h : Rm n S) (rl : Int → List R) : Rm n { S with rl := rl } := ⟨h.l, h.f, h.p, h.w⟩
theorem Rm.fill (h : Rm n S) (v : Int) : Rm n (fillS S r v) := ⟨h.l, h.f, by have := h.p; simp only [fillS, List.length_set]; exact this, h.w⟩
theorem Rm.end_ (h : Rm (n + 1) S) : Rm n (endA S r).1 := h.say 8 k0 r.v r.n
theorem Rm.counted (h : Rm (n + 2) S) : Rm n (countedA S r).1 := (h.say 3 k0 r.v 0).end_
theorem Rm.count (h : Rm (n + 3) S) : Rm n (countA S r).1 := by
  unfold countA; split
  · exact (h.ld r.v).counted
  · exact (h.ld r.v).mono (by omega)
theorem Rm.decide (h : Rm (n + 1) S) (v : Int) : Rm n (decideA S r v).1 := h.say 2 r.k v 0
theorem Rm.change (h : Rm (n + 1) S) (s u v : Int) : Rm n (changeA S r s u v).1 := by
  unfold changeA; split
  · exact (h.sw r.x r.wf _).fill v
  · exact h.sw r.x r.wf _
theorem Rm.act (h : Rm (n + 9) S) : Rm n (actA C S r).1 := by
  unfold actA
  cases r.at_ <;> dsimp only
  case find => exact (h.to 5).mono (by omega)
  case release => exact (h.free r.st).mono (by omega)
  case load => exact (h.ld r.x).mono (by omega)
  case judge => exact ((h.ld 0).mark).mono (by omega)
  case advance => exact (h.change _ _ _).mono (by omega)
  case sure => exact (h.change _ _ _).mono (by omega)
  case look => exact (h.to 5).mono (by omega)
  case again => exact (h.ld r.x).mono (by omega)
  case over => exact (h.ld 0).mono (by omega)
  case kill =>
    unfold killA; split
    · exact ((h.sw r.x r.wf deadW).rem).mono (by omega)
    · exact (h.sw r.x r.wf deadW).mono (by omega)
  case less => exact (h.ld 0).mono (by omega)
  case leave =>
    unfold leaveA; split
    · exact ((h.sw 0 r.wg _).say 4 r.k 0 _).mono (by omega)
    · exact (h.sw 0 r.wg _).mono (by omega)
  case absent =>
    unfold absentA absentR; split
    · exact ((h.ld 0).touch (r := r) 5 _).mono (by omega)
    · exact (((h.ld 0).touch (r := r) 5 _).decide (r := ldG S r) _).mono (by omega)
  case enter =>
    unfold enterA; split
    · exact ((((h.sw 0 r.wg _).mew _).put _).decide 1).mono (by omega)
    · exact (h.sw 0 r.wg _).mono (by omega)
  case unlock => exact (h.free r.st).mono (by omega)
  case malformed => exact ((h.say 2 k0 2 0).count (r := { r with v := 2 })).mono (by omega)
  case count => exact (h.mono (by omega : n + 3 ≤ n + 9)).count
  case add =>
    unfold addA; split
    · exact ((h.sw r.v r.wc _).counted (r := r)).mono (by omega)
    · exact (h.sw r.v r.wc _).mono (by omega)
  case readClock => exact (h.ld 0).mono (by omega)
  case tick =>
    unfold tickA; split
    · exact (((h.sw 0 r.wg _).say 5 k0 0 r.z).end_ (r := { r with n := Ga.later (cG r.wg) r.z })).mono (by omega)
    · exact (h.sw 0 r.wg _).mono (by omega)
  case claim => exact h.mono (by omega)
  case prepare =>
    unfold prepareA prepareR; split
    · exact (h.ld 0).mono (by omega)
    · exact (((h.ld 0).touch (r := r) 6 _).rl _).mono (by omega)
  case publish =>
    unfold publishA; split
    · exact (((h.sw 0 r.wg _).rl _).say 6 k0 0 _).mono (by omega)
    · exact (h.sw 0 r.wg _).mono (by omega)
  case disclaim => exact ((h.free C.n).end_).mono (by omega)
  case stat => exact (((h.ld r.z).say 7 k0 r.z _).end_ (r := { r with n := IntKind.i64.wrap (lookV S.ms r.z) })).mono (by omega)
  case take =>
    unfold takeA keysS; split
    · exact (h.touch (r := r) 5 _).mono (by omega)
    · exact h.mono (by omega)
  case visit => exact ((h.to 5).ld (r := fndR C S r) _).mono (by omega)
  case inspect => exact (h.ld 0).mono (by omega)
  case finish =>
    unfold finishA; split
    · exact ((h.free r.st).end_ (r := { r with st := r.st + 1 })).mono (by omega)
    · exact (h.free r.st).mono (by omega)
  case endOp => exact (h.end_).mono (by omega)
  case done => exact h.mono (by omega)
theorem Rm.locked' (h : Rm (n + 1) S) : Rm n (lockedS S r) := by
  unfold lockedS; split
  · exact h.mono (by omega)
  · have := len_lock S.ms r.t r.mu
    exact ⟨by have := h.l; show (lockS S.ms r.t r.mu).ls.length + n ≤ _; omega, by have := h.f; show S.fs.length + n ≤ _; omega, by have := h.p; show S.pts.length + n ≤ _; omega, by have := h.w; show (lockS S.ms r.t r.mu).ws.length + n < _; omega⟩
theorem Rm.called' (h : Rm (n + 1) S) : Rm n (calledS S r) := by
  unfold calledS; split
  · exact h.mono (by omega)
  · exact h.say 1 k0 0 0
theorem Rm.step (h : Rm (n + 12) S) : Rm n (stepA C S r).1 := by
  unfold stepA; split
  · exact ((Rm.act (C := C) (r := { r with mu := -1, cal := true }) (((h.mono (by omega : n + 11 ≤ n + 12)).locked' (r := r)).called' (r := r)))).mono (by omega)
  · exact h.mono (by omega)

/-! A step. -/
structure Stp (C : Cf) (S : Sh) (r : Rn) (S' : Sh) (r' : Rn) : Prop where
  gi : Gi C S'
  ri : Ri C S' r'
  t : r'.t = r.t
  ext : Ext C r.t S S'
  ho : ∀ i, holdV S'.ms i ≠ -1 → (hl C r' = i ∧ holdV S'.ms i = r.t) ∨ (holdV S'.ms i = holdV S.ms i ∧ hl C r ≠ i)
  cnt : kG (lookV S'.ms 0) - S'.fs.length - pend r' = kG (lookV S.ms 0) - S.fs.length - pend r
theorem hold_neg (s : Ms) : holdV s (-1) = -1 := by unfold holdV; rw [if_neg]; unfold has; simp
theorem lockedS_no (h : r.mu = -1) : lockedS S r = S := by unfold lockedS; rw [if_pos h]
theorem calledS_e0 (S : Sh) (r : Rn) : E0 S (calledS S r) := by
  unfold calledS; split
  · exact E0.refl S
  · exact E0.say S r 1 k0 0 0
/-- The state of an op whose mutex is locked. -/
theorem Gi.locked (G : Gi C S) (h : lockB S.ms r.t r.mu = true) (ht : r.t ≤ 9223372036854775807) : Gi C { S with ms := lockS S.ms r.t r.mu } :=
  ⟨G.ok.lock _ _ ht, G.oks, hs_lock.trans G.hs, by show 6 ≤ (lockS S.ms r.t r.mu).ws.length; rw [ws_lock]; exact G.ws, by
    show ∀ f ∈ S.fs, 6 ≤ f.x ∧ f.x < ((lockS S.ms r.t r.mu).ws.length : Int)
    rw [ws_lock]; exact G.wds, by show kG (lookV (lockS S.ms r.t r.mu) 0) ≤ _; rw [look_lock]; exact G.le⟩
def locks (a : At) : Bool := a == .find || a == .look || a == .take || a == .claim
theorem Ri.mu_no (h : Ri C S r) (hl : locks r.at_ = false) : r.mu = -1 := by
  have hi := h.inf
  unfold Inf at hi
  cases ha : r.at_ <;> rw [ha] at hi hl <;> dsimp only at hi <;> first | exact absurd hl (by decide) | exact hi | exact hi.1
theorem Ri.mu_yes (h : Ri C S r) (hlk : locks r.at_ = true) : r.mu = hx C r ∧ hl C r = -1 ∧ pend r = 0 ∧ hx C r ≠ -1 := by
  have hi := h.inf
  unfold Inf at hi
  unfold hx hl pend
  cases ha : r.at_ <;> rw [ha] at hi hlk <;> dsimp only at hi ⊢ <;> first | exact absurd hlk (by decide) | exact ⟨hi.1, rfl, rfl, by omega⟩ | exact ⟨hi, rfl, rfl, by omega⟩
theorem hx_hl (hlk : locks r.at_ = false) : hx C r = hl C r := by
  unfold hx hl
  cases ha : r.at_ <;> rw [ha] at hlk <;> first | exact absurd hlk (by decide) | rfl
theorem Ri.e0 (h : Ri C S r) (E : E0 S S') : Ri C S' r := by
  refine ⟨h.bas, ?_⟩
  have hi := h.inf
  have hd : Hd S r → Hd S' r := fun x => x.of E rfl rfl
  have wd : Wd S r → Wd S' r := fun x => x.of E rfl
  have he : He S r → He S' r := fun x => x.of E rfl rfl
  have go : Go S r → Go S' r := fun x => x.of E rfl
  have ks : Ks C S r → Ks C S' r := fun x => x.of E rfl rfl
  have hH : ∀ i, holdV S.ms i = r.t → holdV S'.ms i = r.t := fun i e => by rw [E.ho]; exact e
  have hp := E.pt
  unfold Inf at hi ⊢
  cases e : r.at_ <;> rw [e] at hi <;> dsimp only at hi ⊢
  case release => exact ⟨hi.1, hi.2.1, hi.2.2.1, hd hi.2.2.2.1, wd hi.2.2.2.2⟩
  case load => exact ⟨hi.1, hi.2.1, hi.2.2.1, wd hi.2.2.2⟩
  case judge => exact ⟨hi.1, hi.2.1, hi.2.2.1, wd hi.2.2.2⟩
  case advance => exact ⟨hi.1, hi.2.1, hi.2.2.1, wd hi.2.2.2.1, by have := hi.2.2.2.2; omega⟩
  case sure => exact ⟨hi.1, hi.2.1, hi.2.2.1, wd hi.2.2.2.1, by have := hi.2.2.2.2; omega⟩
  case again => exact ⟨hi.1, hi.2.1, hi.2.2.1, hd hi.2.2.2.1, wd hi.2.2.2.2.1, he hi.2.2.2.2.2⟩
  case over => exact ⟨hi.1, hi.2.1, hi.2.2.1, hd hi.2.2.2.1, wd hi.2.2.2.2.1, he hi.2.2.2.2.2⟩
  case kill => exact ⟨hi.1, hi.2.1, hd hi.2.2.1, wd hi.2.2.2.1, he hi.2.2.2.2.1, hi.2.2.2.2.2.imp id fun x => ⟨x.1, ks x.2.1, x.2.2⟩⟩
  case less => exact ⟨hi.1, hd hi.2.1, hi.2.2.imp (fun x => ⟨x.1, x.2.1, go x.2.2⟩) fun x => ⟨x.1, ks x.2⟩⟩
  case leave => exact ⟨hi.1, hd hi.2.1, hi.2.2.imp (fun x => ⟨x.1, x.2.1, go x.2.2⟩) fun x => ⟨x.1, ks x.2⟩⟩
  case absent => exact ⟨hi.1, hi.2.1, hi.2.2.1, hd hi.2.2.2.1, go hi.2.2.2.2⟩
  case enter => exact ⟨hi.1, hi.2.1, hi.2.2.1, hd hi.2.2.2.1, go hi.2.2.2.2.1, hi.2.2.2.2.2⟩
  case unlock => exact ⟨hi.1, hd hi.2.1, hi.2.2⟩
  case prepare => exact ⟨hi.1, hH _ hi.2⟩
  case publish => exact ⟨hi.1, hH _ hi.2.1, hi.2.2⟩
  case disclaim => exact ⟨hi.1, hH _ hi.2⟩
  case visit => exact ⟨hi.1, hi.2.1, hd hi.2.2.1, hi.2.2.2.1, ks hi.2.2.2.2.1, by rw [E.fs]; exact hi.2.2.2.2.2.1, hi.2.2.2.2.2.2⟩
  case inspect => exact ⟨hi.1, hi.2.1, hd hi.2.2.1, wd hi.2.2.2.1, he hi.2.2.2.2.1, hi.2.2.2.2.2.1, ks hi.2.2.2.2.2.2.1, hi.2.2.2.2.2.2.2⟩
  case finish => exact ⟨hi.1, hd hi.2.1, hi.2.2⟩
  all_goals exact hi
theorem step_stp (G : Gi C S) (h : Ri C S r) (hcnt : (S.fs.length : Int) + pend r ≤ kG (lookV S.ms 0)) (hroom : (S.ms.ws.length : Int) < 1000000000000) : Stp C S r (stepA C S r).1 (stepA C S r).2 := by
  unfold stepA
  cases hcb : canB S r with
  | false =>
    rw [if_neg (by simp)]
    exact ⟨G, h, rfl, ⟨Nat.le_refl _, Nat.le_refl _, fun _ => .inl rfl, fun _ => .inl rfl⟩, fun i hi => by
      by_cases e : hl C r = i
      · exact .inl ⟨e, by rw [← e]; exact h.held (fun e2 => hi (by rw [← e, e2]; exact hold_neg _))⟩
      · exact .inr ⟨rfl, e⟩, rfl⟩
  | true =>
    rw [if_pos rfl]
    have hb1 : Bas C { r with mu := -1, cal := true } := ⟨h.bas.wf, h.bas.wg, h.bas.wc, h.bas.k, h.bas.p, h.bas.st, h.bas.z, h.bas.tt⟩
    cases hlk : locks r.at_ with
    | false =>
      have hmu := h.mu_no hlk
      rw [lockedS_no hmu]
      have E := calledS_e0 S r
      have h1 := h.e0 E
      have hpre : Pre C (calledS S r) { r with mu := -1, cal := true } := by
        have hi := h1.inf
        unfold Inf at hi
        unfold Pre Inf
        cases ha : r.at_ <;> rw [ha] at hi hlk <;> first | exact absurd hlk (by decide) | (rw [hmu] at hi; exact hi) | exact hi | exact rfl
      have A := act_asp (E.gi G) hb1 hpre (by rw [E.fs, E.g0]; exact hcnt) (by rw [E.ws]; exact hroom)
      have ehx : hx C { r with mu := -1, cal := true } = hl C r := hx_hl hlk
      refine ⟨A.gi, A.ri, A.t, ⟨by have := A.ws; rw [E.ws] at this; exact this, Nat.le_trans E.pt A.pt, fun k => ?_, fun i => ?_⟩, fun i hi => ?_, ?_⟩
      · rcases A.fx k with e | e
        · exact .inl (by rw [e, E.fs])
        · exact .inr (by rw [E.ho] at e; exact e)
      · rcases A.fr i with e | e
        · exact .inl (by rw [e, E.ho])
        · exact .inr (.inr (by rw [← E.ho]; exact e.1))
      · have e0 : holdV (actA C (calledS S r) { r with mu := -1, cal := true }).1.ms i = holdV S.ms i := by
          rcases A.fr i with e | e
          · rw [e, E.ho]
          · exact absurd e.2 hi
        by_cases e : hl C r = i
        · refine .inl ⟨?_, ?_⟩
          · rcases A.hk with k | k | k
            · rw [ehx, e] at k; rw [k] at hi; exact absurd (hold_neg _) hi
            · rw [k, ehx, e]
            · rw [ehx, e] at k; exact absurd k hi
          · rw [e0, ← e]; exact h.held (fun e2 => hi (by rw [e0, ← e, e2]; exact hold_neg _))
        · exact .inr ⟨e0, e⟩
      · have := A.cnt
        rw [E.g0, E.fs] at this
        exact this
    | true =>
      obtain ⟨m1, m2, m3, m4⟩ := h.mu_yes hlk
      have hlb : lockB S.ms r.t r.mu = true := by
        unfold canB at hcb
        simp only [Bool.and_eq_true, Bool.or_eq_true, beq_iff_eq] at hcb
        rcases hcb.2 with e | e
        · omega
        · exact e
      have hfree := lock_free hlb
      have hlS : lockedS S r = { S with ms := lockS S.ms r.t r.mu } := by unfold lockedS; rw [if_neg (by omega)]
      rw [hlS]
      have hlo : ∀ i, holdV (lockS S.ms r.t r.mu) i = if i = r.mu then r.t else holdV S.ms i := fun i => hold_lock hlb
      have G1 := G.locked hlb h.bas.tt.2
      have E := calledS_e0 { S with ms := lockS S.ms r.t r.mu } r
      have hho : ∀ i, holdV (calledS { S with ms := lockS S.ms r.t r.mu } r).ms i = if i = r.mu then r.t else holdV S.ms i := fun i => (E.ho i).trans (hlo i)
      have hpre : Pre C (calledS { S with ms := lockS S.ms r.t r.mu } r) { r with mu := -1, cal := true } := by
        have hi := h.inf
        unfold Inf at hi
        unfold hx at m1
        unfold Pre
        cases ha : r.at_ <;> rw [ha] at hi hlk m1 <;> first | exact absurd hlk (by decide) | skip
        · exact ⟨rfl, hi.2.1, hi.2.2, by show holdV _ (r.st : Int) = r.t; rw [hho, if_pos m1.symm]⟩
        · exact ⟨rfl, hi.2.1, hi.2.2, by show holdV _ (r.st : Int) = r.t; rw [hho, if_pos m1.symm]⟩
        · exact ⟨rfl, by show holdV _ (C.n : Int) = r.t; rw [hho, if_pos m1.symm]⟩
        · exact ⟨rfl, by show holdV _ (r.st : Int) = r.t; rw [hho, if_pos m1.symm], hi.2⟩
      have A := act_asp (E.gi G1) hb1 hpre (by rw [E.fs, E.g0]; show _ ≤ kG (lookV (lockS S.ms r.t r.mu) 0); rw [look_lock]; exact hcnt) (by rw [E.ws]; show ((lockS S.ms r.t r.mu).ws.length : Int) < _; rw [ws_lock]; exact hroom)
      have ehx : hx C { r with mu := -1, cal := true } = r.mu := m1.symm
      refine ⟨A.gi, A.ri, A.t, ⟨?_, Nat.le_trans E.pt A.pt, fun k => ?_, fun i => ?_⟩, fun i hi => ?_, ?_⟩
      · have := A.ws
        rw [E.ws] at this
        exact Nat.le_trans (Nat.le_of_eq ws_lock.symm) this
      · rcases A.fx k with e | e
        · exact .inl (by rw [e, E.fs])
        · by_cases ek : ((sOf C.n k : Nat) : Int) = r.mu
          · -- what the act itself locked: no act that locks turns the table
            refine .inl ?_
            have hfs : (actA C (calledS { S with ms := lockS S.ms r.t r.mu } r) { r with mu := -1, cal := true }).1.fs = S.fs := by
              unfold actA
              cases ha : r.at_ <;> rw [ha] at hlk <;> first | exact absurd hlk (by decide) | skip
              · exact ((E0.to (C := C) _ _ 5).fs).trans E.fs
              · exact ((E0.to (C := C) _ _ 5).fs).trans E.fs
              · exact E.fs
              · dsimp only [takeA]; unfold keysS; split <;> exact E.fs
            rw [hfs]
          · exact .inr (by rw [hho, if_neg ek] at e; exact e)
      · have := hho i
        by_cases ei : i = r.mu
        · exact .inr (.inl (by rw [ei]; exact hfree))
        · rw [if_neg ei] at this
          rcases A.fr i with e | e
          · exact .inl (by rw [e, this])
          · exact .inr (.inr (by rw [← this]; exact e.1))
      · have e0 : holdV (actA C (calledS { S with ms := lockS S.ms r.t r.mu } r) { r with mu := -1, cal := true }).1.ms i = if i = r.mu then r.t else holdV S.ms i := by
          rcases A.fr i with e | e
          · rw [e, hho]
          · exact absurd e.2 hi
        by_cases ei : i = r.mu
        · rw [if_pos ei] at e0
          refine .inl ⟨?_, e0⟩
          rcases A.hk with k | k | k
          · rw [ehx] at k; omega
          · rw [k, ehx, ei]
          · rw [ehx] at k; subst ei; exact absurd k hi
        · rw [if_neg ei] at e0
          exact .inr ⟨e0, by rw [m2]; intro e2; rw [e0, ← e2] at hi; exact hi (hold_neg _)⟩
      · have := A.cnt
        rw [E.g0, E.fs] at this
        rw [show lookV ({ S with ms := lockS S.ms r.t r.mu } : Sh).ms 0 = lookV S.ms 0 from look_lock] at this
        exact this

/-! Many ops. -/
def sumP (rs : List Rn) : Int := (rs.map pend).sum
theorem pend_nn (r : Rn) : 0 ≤ pend r := by unfold pend; split <;> omega
theorem sumP_nn (rs : List Rn) : 0 ≤ sumP rs := by
  induction rs with
  | nil => exact Int.le_refl _
  | cons r rs ih => have := pend_nn r; unfold sumP at ih ⊢; simp only [List.map_cons, List.sum_cons]; omega
theorem sumP_le {rs : List Rn} {k : Nat} {r : Rn} (h : rs[k]? = some r) : pend r ≤ sumP rs := by
  induction rs generalizing k with
  | nil => cases h
  | cons x rs ih =>
    have h1 := pend_nn x
    have h2 := sumP_nn rs
    unfold sumP at ih h2 ⊢
    simp only [List.map_cons, List.sum_cons]
    cases k with
    | zero => obtain rfl := Option.some.inj h; omega
    | succ k => have := ih (show rs[k]? = some r from h); omega
theorem sumP_set {rs : List Rn} {k : Nat} {r : Rn} (h : rs[k]? = some r) (r' : Rn) : sumP (rs.set k r') = sumP rs - pend r + pend r' := by
  induction rs generalizing k with
  | nil => cases h
  | cons x rs ih =>
    unfold sumP at ih ⊢
    cases k with
    | zero => obtain rfl := Option.some.inj h; simp only [List.set_cons_zero, List.map_cons, List.sum_cons]; omega
    | succ k =>
      have := ih (show rs[k]? = some r from h)
      simp only [List.set_cons_succ, List.map_cons, List.sum_cons]; omega
/-- What always holds of ops on one state: op i is of thread i. -/
structure WI (C : Cf) (S : Sh) (rs : List Rn) : Prop where
  gi : Gi C S
  ri : ∀ (i : Nat) (r : Rn), rs[i]? = some r → Ri C S r
  tt : ∀ (i : Nat) (r : Rn), rs[i]? = some r → r.t = (i : Int)
  ho : ∀ i, holdV S.ms i ≠ -1 → ∃ (j : Nat) (r : Rn), rs[j]? = some r ∧ holdV S.ms i = r.t ∧ hl C r = i
  cnt : kG (lookV S.ms 0) = S.fs.length + sumP rs
theorem WI.step {rs : List Rn} (H : WI C S rs) {k : Nat} (hk : rs[k]? = some r) (hroom : (S.ms.ws.length : Int) < 1000000000000) : WI C (stepA C S r).1 (rs.set k (stepA C S r).2) := by
  have hs := sumP_le hk
  have T := step_stp H.gi (H.ri k r hk) (by rw [H.cnt]; omega) hroom
  have hkl : k < rs.length := (List.getElem?_eq_some_iff.1 hk).1
  have hset : ∀ (j : Nat) (x : Rn), (rs.set k (stepA C S r).2)[j]? = some x → j = k ∧ x = (stepA C S r).2 ∨ j ≠ k ∧ rs[j]? = some x := fun j x h => by
    by_cases e : j = k
    · subst e
      rw [List.getElem?_set_self hkl] at h
      exact .inl ⟨rfl, (Option.some.inj h).symm⟩
    · rw [List.getElem?_set_ne (fun h => e h.symm)] at h
      exact .inr ⟨e, h⟩
  refine ⟨T.gi, fun j x h => ?_, fun j x h => ?_, fun i hi => ?_, ?_⟩
  · rcases hset j x h with ⟨rfl, rfl⟩ | ⟨e, h⟩
    · exact T.ri
    · refine (H.ri j x h).ext T.ext ?_
      rw [H.tt j x h, H.tt k r hk]; omega
  · rcases hset j x h with ⟨rfl, rfl⟩ | ⟨e, h⟩
    · exact T.t.trans (H.tt j r hk)
    · exact H.tt j x h
  · rcases T.ho i hi with ⟨e1, e2⟩ | ⟨e1, e2⟩
    · exact ⟨k, _, List.getElem?_set_self hkl, by rw [e2, T.t], e1⟩
    · obtain ⟨j, x, h1, h2, h3⟩ := H.ho i (by rw [← e1]; exact hi)
      have hne : j ≠ k := fun e => by
        subst e
        rw [hk] at h1
        obtain rfl := Option.some.inj h1
        exact e2 h3
      exact ⟨j, x, by rw [List.getElem?_set_ne (fun h => hne h.symm)]; exact h1, e1.trans h2, h3⟩
  · rw [sumP_set hk]
    have := T.cnt
    have := H.cnt
    omega
/-- Never more flows than the gate counts, and the gate never counts more than the cap. -/
theorem WI.holds {rs : List Rn} (H : WI C S rs) : (S.fs.length : Int) ≤ kG (lookV S.ms 0) ∧ kG (lookV S.ms 0) ≤ C.N := ⟨by rw [H.cnt]; have := sumP_nn rs; omega, H.gi.le⟩
/-- Who is left, and can do nothing, waits for one who can. -/
theorem WI.waits {rs : List Rn} (H : WI C S rs) {k : Nat} {r : Rn} (hk : rs[k]? = some r) (hd : r.at_ ≠ .done) : ∃ (j : Nat) (x : Rn), rs[j]? = some x ∧ x.at_ ≠ .done ∧ blockedB S x = false := by
  by_cases hm : holdV S.ms r.mu = -1
  · exact ⟨k, r, hk, hd, by unfold blockedB; rw [hm]; simp⟩
  · obtain ⟨j, x, h1, h2, h3⟩ := H.ho _ hm
    have hne : hl C x ≠ -1 := by rw [h3]; intro e; rw [e] at hm; exact hm (hold_neg _)
    have hxl : locks x.at_ = false ∧ x.at_ ≠ .done := by
      unfold hl at hne
      cases ha : x.at_ <;> rw [ha] at hne <;> first | exact absurd rfl hne | exact ⟨rfl, by decide⟩
    exact ⟨j, x, h1, hxl.2, by unfold blockedB; rw [(H.ri j x h1).mu_no hxl.1, hold_neg]; simp⟩
/-- A new op. -/
theorem ri_beg (hc : CfOk C) (hpw : KeyM.isPow (C.n : Int) = true) (S : Sh) (t op kd n : Int) (bs l : List UInt8) (ht : 0 ≤ t ∧ t ≤ 9223372036854775807) (hn : -9223372036854775808 ≤ n ∧ n ≤ 9223372036854775807) : Ri C S (begR C t op kd n bs l) ∧ (begR C t op kd n bs l).t = t ∧ hl C (begR C t op kd n bs l) = -1 ∧ pend (begR C t op kd n bs l) = 0 := by
  have w0 : W64 0 := ⟨by omega, by omega⟩
  have k0k : k0.Ok := ⟨by decide, by decide, by decide, by decide, by decide⟩
  have p0k : (⟨0, 0, 0, 0, 0, 0, 0⟩ : K).Ok := ⟨by decide, by decide, by decide, by decide, by decide, by decide, by decide⟩
  have z0 : (-9223372036854775808 : Int) ≤ 0 ∧ (0 : Int) ≤ 9223372036854775807 := by omega
  have hnp := hc.n1
  unfold begR
  split
  · unfold packR; split
    · exact ⟨⟨⟨w0, w0, w0, keyP_ok (pkR_ok bs), pkR_ok bs, Nat.le_of_lt (Tb.sOf_lt (by omega) _), z0, ht⟩, rfl, rfl, rfl⟩, rfl, rfl, rfl⟩
    · exact ⟨⟨⟨w0, w0, w0, k0k, p0k, Nat.zero_le _, z0, ht⟩, rfl⟩, rfl, rfl, rfl⟩
  split
  · exact ⟨⟨⟨w0, w0, w0, k0k, p0k, Nat.zero_le _, hn, ht⟩, rfl⟩, rfl, rfl, rfl⟩
  split
  · unfold swpR; split
    · exact ⟨⟨⟨w0, w0, w0, k0k, p0k, Nat.zero_le _, z0, ht⟩, rfl⟩, rfl, rfl, rfl⟩
    · exact ⟨⟨⟨w0, w0, w0, k0k, p0k, Nat.zero_le _, z0, ht⟩, rfl⟩, rfl, rfl, rfl⟩
  split
  · exact ⟨⟨⟨w0, w0, w0, k0k, p0k, Nat.zero_le _, z0, ht⟩, rfl, rfl, hnp⟩, rfl, rfl, rfl⟩
  split
  · exact ⟨⟨⟨w0, w0, w0, k0k, p0k, Nat.zero_le _, z0, ht⟩, rfl, rfl, hnp⟩, rfl, rfl, rfl⟩
  split
  · unfold statR; split
    · rename_i h; exact ⟨⟨⟨w0, w0, w0, k0k, p0k, Nat.zero_le _, hn, ht⟩, rfl, h⟩, rfl, rfl, rfl⟩
    · exact ⟨⟨⟨w0, w0, w0, k0k, p0k, Nat.zero_le _, z0, ht⟩, rfl⟩, rfl, rfl, rfl⟩
  · exact ⟨⟨⟨w0, w0, w0, k0k, p0k, Nat.zero_le _, z0, ht⟩, rfl⟩, rfl, rfl, rfl⟩
theorem WI.add {rs : List Rn} (H : WI C S rs) (hr : Ri C S r) (ht : r.t = (rs.length : Int)) (hh : hl C r = -1) (hp : pend r = 0) : WI C S (rs ++ [r]) := by
  have hget : ∀ (j : Nat) (x : Rn), (rs ++ [r])[j]? = some x → rs[j]? = some x ∨ j = rs.length ∧ x = r := fun j x h => by
    rcases Nat.lt_or_ge j rs.length with hl | hl
    · rw [List.getElem?_append_left hl] at h; exact .inl h
    · rw [List.getElem?_append_right hl] at h
      have hj : j - rs.length < [r].length := (List.getElem?_eq_some_iff.1 h).1
      have : j = rs.length := by simp at hj; omega
      subst this
      simp at h
      exact .inr ⟨rfl, h.symm⟩
  refine ⟨H.gi, fun j x h => (hget j x h).elim (H.ri j x) fun e => e.2 ▸ hr, fun j x h => (hget j x h).elim (H.tt j x) fun e => by rw [e.2, e.1]; exact ht, fun i hi => ?_, ?_⟩
  · obtain ⟨j, x, h1, h2, h3⟩ := H.ho i hi
    exact ⟨j, x, by rw [List.getElem?_append_left (List.getElem?_eq_some_iff.1 h1).1]; exact h1, h2, h3⟩
  · rw [H.cnt]
    unfold sumP
    simp [hp]
end
end Pg
end Go.Proofs.YtcockldefmmhbaaGreatDoor
