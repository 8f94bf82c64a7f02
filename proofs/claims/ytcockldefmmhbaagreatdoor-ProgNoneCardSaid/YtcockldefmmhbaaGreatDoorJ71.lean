/- Several texts of this proof in one file, each in its own namespace. -/
import Derived.Test.YtcockldefmmhbaaGreatDoorJ68
import Derived.Test.YtcockldefmmhbaaGreatDoorJ69
/- Layer 21: the acts, take; all acts in one. (Written by wip/tools/mkPrgP.py.) -/
set_option linter.unusedVariables false
set_option linter.unusedSimpArgs false
set_option maxRecDepth 100000
namespace Go.Proofs.YtcockldefmmhbaaGreatDoor
open Go.ChangeShapes Go.WideShapes Go.ChangeAt Go.RowKit Go.Mtl Go.Lib
namespace Pg
open MemM (Ms lookV loadS swapB swapS holdV lockB lockS unlockS touchS moreS)
open RulM (R)
open AutM (Ke)
open Me (ptr)
open Tb (TAt TM Fw)
section
variable {b : Bs} {W : World} {S : Sh} {r : Rn}
theorem YR.keys {Om Ot K : Nat → Prop} {pv lv kv : Value} (H : YR b Om Ot K pv lv kv S r W) {v : Value} {ks : List Ke} (hk : Kv W K v ks) : YR b Om Ot K pv lv v S { r with ks := ks } (W.setCell ⟨b.g, 24, none⟩ v) := H.set (r' := { r with ks := ks }) 24 v rfl H.lis hk
/-- The keys of the stripe, in a row that came since. -/
def YK (b : Bs) (S : Sh) (r : Rn) (v : Value) (ks : List Ke) (W : World) : Prop := ∃ Om Ot Kf pv lv kv, YR b Om Ot Kf pv lv kv S r W ∧ Kv W Kf v ks
theorem YK.y {v : Value} {ks : List Ke} (H : YK b S r v ks W) : Y b S r W := by
  obtain ⟨Om, Ot, K, pv, lv, kv, h1, h2⟩ := H
  exact ⟨Om, Ot, K, pv, lv, kv, h1⟩
theorem YK.store {v : Value} {ks : List Ke} (H : YK b S r v ks W) : Y b S { r with ks := ks } (W.setCell ⟨b.g, 24, none⟩ v) := by
  obtain ⟨Om, Ot, K, pv, lv, kv, h1, h2⟩ := H
  exact ⟨Om, Ot, K, pv, lv, v, h1.keys h2⟩
theorem kv_of {K : Nat → Prop} {p : Option Addr} {c B0 : Nat} {ks : List Ke} (hc : ks.length ≤ c ∧ c ≤ 9223372036854775807) (hk : Tb.Kys W B0 p ks) (ho : ∀ k ∈ ks, k.Ok) (hK : ∀ g, p = some ⟨g, 0, none⟩ → 0 < ks.length → K g) : Kv W K (.slice p ks.length c) ks := by
  refine ⟨⟨p, c, rfl, hc, fun hn => ?_⟩, ho⟩
  obtain ⟨g, rfl, h1, h2, h3⟩ := hk hn
  refine ⟨g, 0, rfl, hK g rfl hn, h2, fun j u hu => ?_⟩
  have hj : j < (Tb.kcs ks).length := (List.getElem?_eq_some_iff.1 (show (Tb.kcs ks)[j]? = some u from hu)).1
  rw [Tb.kcs_len] at hj
  obtain ⟨k, hk⟩ : ∃ k, ks[j / 5]? = some k := ⟨_, List.getElem?_eq_getElem (by omega)⟩
  have e : j = j / 5 * 5 + j % 5 := by omega
  have h4 := Tb.kcs_get ks (j / 5) (j % 5) k hk (by omega)
  rw [← e] at h4
  have h5 : (Tb.k5 k)[j % 5]? = some u := h4.symm.trans hu
  obtain ⟨a0, a1, a2, a3, a4⟩ := h3 (j / 5) k hk
  rw [Nat.zero_add, e]
  rcases (by omega : j % 5 = 0 ∨ j % 5 = 1 ∨ j % 5 = 2 ∨ j % 5 = 3 ∨ j % 5 = 4) with e2 | e2 | e2 | e2 | e2
  · rw [e2] at h5 ⊢; exact a0.trans h5
  · rw [e2] at h5 ⊢; exact a1.trans h5
  · rw [e2] at h5 ⊢; exact a2.trans h5
  · rw [e2] at h5 ⊢; exact a3.trans h5
  · rw [e2] at h5 ⊢; exact a4.trans h5
theorem keys_y (H : Y b S r W) (hr : Rm 0 S) (hn : b.C.n ≤ 4096) : Calls Tryz.prog 118 #[ptr b.tb, .int .i64 r.t, .int .i64 (r.st : Int)] W fun e w' => ∃ p c ve, e = .returned (.tuple #[.slice p (keysL b.C S r).length c, .int .i64 ve]) ∧ YK b (keysS b.C S r) r (.slice p (keysL b.C S r).length c) (keysL b.C S r) w' := by
  by_cases hs : r.st < b.C.n
  · cases hh : Tb.heldB S.ms r.t (r.st : Int) with
    | false =>
      rw [show keysS b.C S r = S by unfold keysS; rw [if_neg (by rw [hh]; simp)], show keysL b.C S r = [] by unfold keysL; rw [if_neg (by rw [hh]; simp)]]
      obtain ⟨Om, Ot, K, pv, lv, kv, h⟩ := H
      refine (Tb.keys_no h.tm r.t r.st hs hh).mono ?_
      rintro e w' ⟨rfl, rfl⟩
      exact ⟨none, 0, 13, rfl, Om, Ot, K, pv, lv, kv, h, Kv.nil _ _⟩
    | true =>
      rw [show keysS b.C S r = { S with ms := touchS S.ms r.t 5 (r.st : Int) } by unfold keysS; rw [if_pos ⟨hs, hh⟩], show keysL b.C S r = (Tb.part b.C.n r.st S.fs).map (·.k) by unfold keysL; rw [if_pos ⟨hs, hh⟩]]
      obtain ⟨Om, Ot, K, pv, lv, kv, h⟩ := H
      have hb := h.onl.size
      have hfs := h.tab.2.1
      refine (Tb.keys_cap h.tm hr.l hr.f r.t r.st hs hh).mono ?_
      rintro e w' ⟨p, c, Om', B0, rfl, hc, hk, hlt, hB, hT⟩
      have h2 := h.tm_done hT
      have hok : ∀ k ∈ (Tb.part b.C.n r.st S.fs).map (·.k), k.Ok := fun k hk => by
        obtain ⟨f, hf, rfl⟩ := List.mem_map.1 hk
        exact (hfs.ok f (Tb.mem_part.1 hf).1).k
      have hlen : ((Tb.part b.C.n r.st S.fs).map (·.k)).length = (Tb.part b.C.n r.st S.fs).length := List.length_map ..
      rw [← hlen] at hc
      refine ⟨p, c, 0, by rw [hlen], ?_⟩
      by_cases h0 : 0 < ((Tb.part b.C.n r.st S.fs).map (·.k)).length
      · obtain ⟨g, rfl, g1, g2, -⟩ := hk h0
        refine ⟨Om', Ot, fun j => K j ∨ j = g, pv, lv, kv, h2.more g (by omega) (fun j hj => ?_) g2, kv_of hc hk hok fun g' e _ => .inr (by injection e with e; injection e with e; exact e.symm)⟩
        have : j < B0 := by
          rcases hj with hj | rfl
          · rcases hj with hj | hj
            · exact hlt j hj
            · exact Nat.lt_of_lt_of_le (h.lt (.inr hj)) hB
          · exact Nat.lt_of_lt_of_le h.run.lt hB
        omega
      · exact ⟨Om', Ot, K, pv, lv, kv, h2, kv_of hc hk hok fun g _ h1 => absurd h1 h0⟩
  · rw [show keysS b.C S r = S by unfold keysS; rw [if_neg (fun e => hs e.1)], show keysL b.C S r = [] by unfold keysL; rw [if_neg (fun e => hs e.1)]]
    obtain ⟨Om, Ot, K, pv, lv, kv, h⟩ := H
    refine (Tb.keys_arg h.tm r.t (r.st : Int) (.inr (by omega))).mono ?_
    rintro e w' ⟨rfl, rfl⟩
    exact ⟨none, 0, 1, rfl, Om, Ot, K, pv, lv, kv, h, Kv.nil _ _⟩
set_option maxHeartbeats 2000000 in
theorem take_act (H : Y b S r W) (hr : Rm 9 S) (hF : Fit b.C S r) (he : Env b.w0) : Calls Tryz.prog 78 #[ptr b.g] W (Yd b U ((takeA b.C S r).1) ((takeA b.C S r).2)) := by
  have HR := Lib.hid hr
  have HF := Lib.hid hF
  have HE := Lib.hid he
  have H0 := Lib.hid H
  have HCN := Lib.hid hF.cn
  clear H hr hF he
  go_enter Tryz.func78, Tryz.ntmps78
  go_wp2_with fail
  refine wp_region_held_drew (S := fun w' => w'.cell? ⟨b.g, 0, none⟩ = some (ptr b.B) ∧ w'.cell? ⟨b.B, 19, none⟩ = some (ptr b.tb) ∧ w'.cell? ⟨b.g, 1, none⟩ = some (.int .i64 r.t) ∧ w'.cell? ⟨b.g, 23, none⟩ = some (.int .i64 (r.st : Int))) (by kernel_rfl) (⟨H0.out.drew.cell 0 (ptr b.B) (fun _ _ => rfl), H0.out.drew.shared 19 (ptr b.tb) (fun _ => rfl), H0.out.drew.cell 1 (.int .i64 r.t) (fun _ _ => rfl), H0.out.drew.cell 23 (.int .i64 (r.st : Int)) (fun _ _ => rfl)⟩) (fun hH => ?_)
  refine wpAnyH_take (i := 0) (oi := ⟨some 3, _, _, _, _, _⟩) (v := ?v1) rfl (by kernel_rfl) (by kernel_rfl) (by kernel_rfl) (fun _ _ _ h => h) (Or.inl ⟨rfl, ?c1⟩) hH ?r1
  case c1 => (intro w' _; go_simp; (try with_reducible rfl))
  try simp only [Act.put, List.setIfInBounds_toArray, List.set_cons_zero, List.set_cons_succ]
  refine wpAnyH_take (i := 1) (oi := ⟨some 4, _, _, _, _, _⟩) (v := ?v2) rfl (by kernel_rfl) (by kernel_rfl) (by kernel_rfl) (fun _ _ _ h => h) (Or.inl ⟨rfl, ?c2⟩) hH ?r2
  case c2 => (intro w' _; go_simp; (try with_reducible rfl))
  try simp only [Act.put, List.setIfInBounds_toArray, List.set_cons_zero, List.set_cons_succ]
  refine wpAnyH_take (i := 2) (oi := ⟨some 5, _, _, _, _, _⟩) (v := ?v3) rfl (by kernel_rfl) (by kernel_rfl) (by kernel_rfl) (fun _ _ _ h => h) (Or.inl ⟨rfl, ?c3⟩) hH ?r3
  case c3 => (intro w' _; go_simp; (try with_reducible rfl))
  try simp only [Act.put, List.setIfInBounds_toArray, List.set_cons_zero, List.set_cons_succ]
  refine wpAnyH_take (i := 3) (oi := ⟨some 6, _, _, _, _, _⟩) (v := ?v4) rfl (by kernel_rfl) (by kernel_rfl) (by kernel_rfl) (fun _ _ _ h => h) (Or.inl ⟨rfl, ?c4⟩) hH ?r4
  case c4 => (intro w' _; go_simp; (try with_reducible rfl))
  try simp only [Act.put, List.setIfInBounds_toArray, List.set_cons_zero, List.set_cons_succ]
  refine wpAnyH_take (i := 4) (oi := ⟨some 7, _, _, _, _, _⟩) (v := ?v5) rfl (by kernel_rfl) (by kernel_rfl) (by kernel_rfl) (fun _ _ _ h => h) (Or.inl ⟨rfl, ?c5⟩) hH ?r5
  case c5 => (intro w' hS; (try dsimp only at hS); go_simp; (try with_reducible rfl))
  try simp only [Act.put, List.setIfInBounds_toArray, List.set_cons_zero, List.set_cons_succ]
  refine wpAnyH_take (i := 5) (oi := ⟨some 8, _, _, _, _, _⟩) (v := ?v6) rfl (by kernel_rfl) (by kernel_rfl) (by kernel_rfl) (fun _ _ _ h => h) (Or.inl ⟨rfl, ?c6⟩) hH ?r6
  case c6 => (intro w' _; go_simp; (try with_reducible rfl))
  try simp only [Act.put, List.setIfInBounds_toArray, List.set_cons_zero, List.set_cons_succ]
  refine wpAnyH_take (i := 6) (oi := ⟨some 9, _, _, _, _, _⟩) (v := ?v7) rfl (by kernel_rfl) (by kernel_rfl) (by kernel_rfl) (fun _ _ _ h => h) (Or.inl ⟨rfl, ?c7⟩) hH ?r7
  case c7 => (intro w' _; go_simp; (try with_reducible rfl))
  try simp only [Act.put, List.setIfInBounds_toArray, List.set_cons_zero, List.set_cons_succ]
  refine wpAnyH_take (i := 7) (oi := ⟨some 10, _, _, _, _, _⟩) (v := ?v8) rfl (by kernel_rfl) (by kernel_rfl) (by kernel_rfl) (fun _ _ _ h => h) (Or.inl ⟨rfl, ?c8⟩) hH ?r8
  case c8 => (intro w' hS; (try dsimp only at hS); go_simp; (try with_reducible rfl))
  try simp only [Act.put, List.setIfInBounds_toArray, List.set_cons_zero, List.set_cons_succ]
  refine wpAnyH_take (i := 8) (oi := ⟨some 11, _, _, _, _, _⟩) (v := ?v9) rfl (by kernel_rfl) (by kernel_rfl) (by kernel_rfl) (fun _ _ _ h => h) (Or.inl ⟨rfl, ?c9⟩) hH ?r9
  case c9 => (intro w' _; go_simp; (try with_reducible rfl))
  try simp only [Act.put, List.setIfInBounds_toArray, List.set_cons_zero, List.set_cons_succ]
  refine wpAnyH_take (i := 9) (oi := ⟨some 12, _, _, _, _, _⟩) (v := ?v10) rfl (by kernel_rfl) (by kernel_rfl) (by kernel_rfl) (fun _ _ _ h => h) (Or.inl ⟨rfl, ?c10⟩) hH ?r10
  case c10 => (intro w' _; go_simp; (try with_reducible rfl))
  try simp only [Act.put, List.setIfInBounds_toArray, List.set_cons_zero, List.set_cons_succ]
  refine wpAnyH_take (i := 10) (oi := ⟨some 13, _, _, _, _, _⟩) (v := ?v11) rfl (by kernel_rfl) (by kernel_rfl) (by kernel_rfl) (fun _ _ _ h => h) (Or.inl ⟨rfl, ?c11⟩) hH ?r11
  case c11 => (intro w' _; go_simp; (try with_reducible rfl))
  try simp only [Act.put, List.setIfInBounds_toArray, List.set_cons_zero, List.set_cons_succ]
  refine wpAnyH_take (i := 11) (oi := ⟨some 14, _, _, _, _, _⟩) (v := ?v12) rfl (by kernel_rfl) (by kernel_rfl) (by kernel_rfl) (fun _ _ _ h => h) (Or.inl ⟨rfl, ?c12⟩) hH ?r12
  case c12 => (intro w' hS; (try dsimp only at hS); go_simp; (try with_reducible rfl))
  try simp only [Act.put, List.setIfInBounds_toArray, List.set_cons_zero, List.set_cons_succ]
  refine wpAnyH_take (i := 12) (oi := ⟨some 15, _, _, _, _, _⟩) (v := ?v13) rfl (by kernel_rfl) (by kernel_rfl) (by kernel_rfl) (fun _ _ _ h => h) (Or.inl ⟨rfl, ?c13⟩) hH ?r13
  case c13 => (intro w' _; go_simp; (try with_reducible rfl))
  try simp only [Act.put, List.setIfInBounds_toArray, List.set_cons_zero, List.set_cons_succ]
  refine wpAnyH_take (i := 13) (oi := ⟨some 16, _, _, _, _, _⟩) (v := ?v14) rfl (by kernel_rfl) (by kernel_rfl) (by kernel_rfl) (fun _ _ _ h => h) (Or.inl ⟨rfl, ?c14⟩) hH ?r14
  case c14 => (intro w' _; go_simp; (try with_reducible rfl))
  try simp only [Act.put, List.setIfInBounds_toArray, List.set_cons_zero, List.set_cons_succ]
  refine wpAnyH_take (i := 14) (oi := ⟨some 17, _, _, _, _, _⟩) (v := ?v15) rfl (by kernel_rfl) (by kernel_rfl) (by kernel_rfl) (fun _ _ _ h => h) (Or.inl ⟨rfl, ?c15⟩) hH ?r15
  case c15 => (intro w' _; go_simp; (try with_reducible rfl))
  try simp only [Act.put, List.setIfInBounds_toArray, List.set_cons_zero, List.set_cons_succ]
  refine wpAnyH_take (i := 15) (oi := ⟨some 18, _, _, _, _, _⟩) (v := ?v16) rfl (by kernel_rfl) (by kernel_rfl) (by kernel_rfl) (fun _ _ _ h => h) (Or.inl ⟨rfl, ?c16⟩) hH ?r16
  case c16 => (intro w' hS; (try dsimp only at hS); go_simp; (try with_reducible rfl))
  try simp only [Act.put, List.setIfInBounds_toArray, List.set_cons_zero, List.set_cons_succ]
  refine wpAnyH_ready (rs := [16]) (by kernel_rfl) (by simp) (AllReadyH.cons rfl (fun K hK => ?_) (AllReadyH.nil))
  go_simp
  go_at_call 118
  refine (keys_y H0.out.drew (HR.out.mono (by omega)) HCN.out).mono ?_
  rintro e w1 ⟨p, c, ve, rfl, hy⟩
  refine hK.out _ _ (⟨hy.y.cell 0 (ptr b.B) (fun _ _ => rfl), hy.y.shared 19 (ptr b.tb) (fun _ => rfl), hy.y.cell 1 (.int .i64 r.t) (fun _ _ => rfl), hy.y.cell 23 (.int .i64 (r.st : Int)) (fun _ _ => rfl)⟩) (fun hH => ?_)
  clear hK K
  have H1 := Lib.hid hy
  clear hy H0
  try simp only [Act.put, List.setIfInBounds_toArray, List.set_cons_zero, List.set_cons_succ]
  refine wpAnyH_take (i := 17) (oi := ⟨some 2, _, _, _, _, _⟩) (v := ?v17) rfl (by kernel_rfl) (by kernel_rfl) (by kernel_rfl) (fun _ _ _ h => h) (Or.inl ⟨rfl, ?c17⟩) hH ?r17
  case c17 => (intro w' _; go_simp; (try with_reducible rfl))
  try simp only [Act.put, List.setIfInBounds_toArray, List.set_cons_zero, List.set_cons_succ]
  refine wpAnyH_take (i := 18) (oi := ⟨some 20, _, _, _, _, _⟩) (v := ?v18) rfl (by kernel_rfl) (by kernel_rfl) (by kernel_rfl) (fun _ _ _ h => h) (Or.inl ⟨rfl, ?c18⟩) hH ?r18
  case c18 => (intro w' _; go_simp; (try with_reducible rfl))
  try simp only [Act.put, List.setIfInBounds_toArray, List.set_cons_zero, List.set_cons_succ]
  refine wpAnyH_take (i := 19) (oi := ⟨some 21, _, _, _, _, _⟩) (v := ?v19) rfl (by kernel_rfl) (by kernel_rfl) (by kernel_rfl) (fun _ _ _ h => h) (Or.inl ⟨rfl, ?c19⟩) hH ?r19
  case c19 => (intro w' _; go_simp; (try with_reducible rfl))
  try simp only [Act.put, List.setIfInBounds_toArray, List.set_cons_zero, List.set_cons_succ]
  refine wpAnyH_take (i := 20) (oi := ⟨some 22, _, _, _, _, _⟩) (v := ?v20) rfl (by kernel_rfl) (by kernel_rfl) (by kernel_rfl) (fun _ _ _ h => h) (Or.inl ⟨rfl, ?c20⟩) hH ?r20
  case c20 => (intro w' _; go_simp; (try with_reducible rfl))
  try simp only [Act.put, List.setIfInBounds_toArray, List.set_cons_zero, List.set_cons_succ]
  refine wpAnyH_take (i := 21) (oi := ⟨some 23, _, _, _, _, _⟩) (v := ?v21) rfl (by kernel_rfl) (by kernel_rfl) (by kernel_rfl) (fun _ _ _ h => h) (Or.inl ⟨rfl, ?c21⟩) hH ?r21
  case c21 => (intro w' _; go_simp; (try with_reducible rfl))
  try simp only [Act.put, List.setIfInBounds_toArray, List.set_cons_zero, List.set_cons_succ]
  refine wpAnyH_ready (rs := [22]) (by kernel_rfl) (by simp) (AllReadyH.cons rfl (fun K hK => ?_) (AllReadyH.nil))
  have f0 := H1.out.y.frozen 24
  obtain ⟨u0, c0⟩ : ∃ u, w1.cell? ⟨b.g, 24, none⟩ = some u := by
    obtain ⟨Om, Ot, Kf, pv, lv, kv, h, _⟩ := H1.out
    exact ⟨_, h.run.cell 24 _ rfl⟩
  go_simp
  clear c0 f0
  have H2 := Lib.hid H1.out.store
  refine hK.out _ _ (⟨H2.out.cell 0 (ptr b.B) (fun _ _ => rfl), H2.out.shared 19 (ptr b.tb) (fun _ => rfl), H2.out.cell 1 (.int .i64 r.t) (fun _ _ => rfl), H2.out.cell 23 (.int .i64 (r.st : Int)) (fun _ _ => rfl)⟩) (fun hH => ?_)
  clear hK K
  clear H1
  try simp only [Act.put, List.setIfInBounds_toArray, List.set_cons_zero, List.set_cons_succ]
  refine wpAnyH_done (by kernel_rfl) ?_ _
  clear hH
  go_wp2_with fail
  go_at_call 117
  refine (proceed_act H2.out).mono ?_
  rintro e w3 ⟨rfl, hy⟩
  have H3 := Lib.hid hy
  clear hy H2
  go_wp2_with fail
  go_end0
  exact ⟨rfl, H3.out⟩
end
end Pg
end Go.Proofs.YtcockldefmmhbaaGreatDoor
/- Layer 21: the acts, all acts in one; Step, Blocked, Done. (Written by wip/tools/mkPrgQ.py.) -/
set_option linter.unusedVariables false
set_option linter.unusedSimpArgs false
set_option maxRecDepth 100000
namespace Go.Proofs.YtcockldefmmhbaaGreatDoor
open Go.ChangeShapes Go.WideShapes Go.ChangeAt Go.RowKit Go.Mtl Go.Lib
namespace Pg
open MemM (Ms lookV loadS swapB swapS holdV lockB lockS unlockS touchS moreS)
open RulM (R)
open AutM (Ke)
open Me (ptr)
open Tb (TAt TM Fw)
section
variable {b : Bs} {W : World} {S : Sh} {r : Rn}
theorem act_any (H : Y b S r W) (hr : Rm 9 S) (hF : Fit b.C S r) (he : Env b.w0) (hd : r.at_ ≠ .done) : Calls Tryz.prog (fid r.at_) #[ptr b.g] W (Yd b U (actA b.C S r).1 (actA b.C S r).2) := by
  cases ha : r.at_ with
  | find =>
    rw [show actA b.C S r = findA b.C S r by unfold actA; rw [ha]]
    exact find_act H hr hF he
  | release =>
    rw [show actA b.C S r = releaseA S r by unfold actA; rw [ha]]
    exact release_act H hr hF he
  | load =>
    rw [show actA b.C S r = loadA S r by unfold actA; rw [ha]]
    exact load_act H hr hF he
  | judge =>
    rw [show actA b.C S r = judgeA S r by unfold actA; rw [ha]]
    exact judge_act H hr hF he
  | advance =>
    rw [show actA b.C S r = advanceA b.C S r by unfold actA; rw [ha]]
    exact advance_act H hr hF he (hF.mr (by rw [ha]; simp))
  | sure =>
    rw [show actA b.C S r = sureA S r by unfold actA; rw [ha]]
    exact sure_act H hr hF he (hF.mr (by rw [ha]; simp))
  | look =>
    rw [show actA b.C S r = lookA b.C S r by unfold actA; rw [ha]]
    exact look_act H hr hF he
  | again =>
    rw [show actA b.C S r = againA S r by unfold actA; rw [ha]]
    exact again_act H hr hF he
  | over =>
    rw [show actA b.C S r = overA S r by unfold actA; rw [ha]]
    exact over_act H hr hF he
  | kill =>
    rw [show actA b.C S r = killA b.C S r by unfold actA; rw [ha]]
    exact kill_act H hr hF he (hF.q (by rw [ha]; simp))
  | less =>
    rw [show actA b.C S r = lessA S r by unfold actA; rw [ha]]
    exact less_act H hr hF he
  | leave =>
    rw [show actA b.C S r = leaveA S r by unfold actA; rw [ha]]
    exact leave_act H hr hF he (hF.q (by rw [ha]; simp))
  | absent =>
    rw [show actA b.C S r = absentA b.C S r by unfold actA; rw [ha]]
    exact absent_act H hr hF he
  | enter =>
    rw [show actA b.C S r = enterA b.C S r by unfold actA; rw [ha]]
    exact enter_act H hr hF he
  | unlock =>
    rw [show actA b.C S r = unlockA S r by unfold actA; rw [ha]]
    exact unlock_act H hr hF he
  | malformed =>
    rw [show actA b.C S r = malformedA S r by unfold actA; rw [ha]]
    exact malformed_act H hr hF he
  | count =>
    rw [show actA b.C S r = countA S r by unfold actA; rw [ha]]
    exact count_act H hr hF he
  | add =>
    rw [show actA b.C S r = addA S r by unfold actA; rw [ha]]
    exact add_act H hr hF he
  | readClock =>
    rw [show actA b.C S r = readClockA S r by unfold actA; rw [ha]]
    exact readClock_act H hr hF he
  | tick =>
    rw [show actA b.C S r = tickA S r by unfold actA; rw [ha]]
    exact tick_act H hr hF he
  | claim =>
    rw [show actA b.C S r = claimA S r by unfold actA; rw [ha]]
    exact claim_act H hr hF he
  | prepare =>
    rw [show actA b.C S r = prepareA b.C S r by unfold actA; rw [ha]]
    exact prepare_act H hr hF he
  | publish =>
    rw [show actA b.C S r = publishA S r by unfold actA; rw [ha]]
    exact publish_act H hr hF he
  | disclaim =>
    rw [show actA b.C S r = disclaimA b.C S r by unfold actA; rw [ha]]
    exact disclaim_act H hr hF he
  | stat =>
    rw [show actA b.C S r = statA S r by unfold actA; rw [ha]]
    exact stat_act H hr hF he
  | take =>
    rw [show actA b.C S r = takeA b.C S r by unfold actA; rw [ha]]
    exact take_act H hr hF he
  | visit =>
    rw [show actA b.C S r = visitA b.C S r by unfold actA; rw [ha]]
    exact visit_act H hr hF he
  | inspect =>
    rw [show actA b.C S r = inspectA S r by unfold actA; rw [ha]]
    exact inspect_act H hr hF he
  | finish =>
    rw [show actA b.C S r = finishA b.C S r by unfold actA; rw [ha]]
    exact finish_act H hr hF he
  | endOp =>
    rw [show actA b.C S r = endA S r by unfold actA; rw [ha]]
    exact end_any H (hr.mono (by omega))
  | done => exact absurd ha hd
theorem func_nil (n : Nat) (w : World) : (binOp .eql 93 (fnV n) .nilFunc).run Tryz.prog w = .ok (.bool false) w := by kernel_rfl
theorem nil_nil (w : World) : (binOp .eql 93 .nilFunc .nilFunc).run Tryz.prog w = .ok (.bool true) w := by kernel_rfl
theorem next_is {a : At} (h : a ≠ .done) : nextV a = fnV (fid a) := by cases a <;> first | rfl | exact absurd rfl h
theorem fid_enters (a : At) (h : a ≠ .done) : Enters Tryz.prog (fid a) := by
  cases a with
  | find => exact enters_of Tryz.func70 (by decide) rfl
  | release => exact enters_of Tryz.func108 (by decide) rfl
  | load => exact enters_of Tryz.func152 (by decide) rfl
  | judge => exact enters_of Tryz.func206 (by decide) rfl
  | advance => exact enters_of Tryz.func259 (by decide) rfl
  | sure => exact enters_of Tryz.func258 (by decide) rfl
  | look => exact enters_of Tryz.func256 (by decide) rfl
  | again => exact enters_of Tryz.func67 (by decide) rfl
  | over => exact enters_of Tryz.func105 (by decide) rfl
  | kill => exact enters_of Tryz.func115 (by decide) rfl
  | less => exact enters_of Tryz.func171 (by decide) rfl
  | leave => exact enters_of Tryz.func223 (by decide) rfl
  | absent => exact enters_of Tryz.func106 (by decide) rfl
  | enter => exact enters_of Tryz.func148 (by decide) rfl
  | unlock => exact enters_of Tryz.func202 (by decide) rfl
  | malformed => exact enters_of Tryz.func64 (by decide) rfl
  | count => exact enters_of Tryz.func99 (by decide) rfl
  | add => exact enters_of Tryz.func142 (by decide) rfl
  | readClock => exact enters_of Tryz.func38 (by decide) rfl
  | tick => exact enters_of Tryz.func72 (by decide) rfl
  | claim => exact enters_of Tryz.func75 (by decide) rfl
  | prepare => exact enters_of Tryz.func114 (by decide) rfl
  | publish => exact enters_of Tryz.func167 (by decide) rfl
  | disclaim => exact enters_of Tryz.func164 (by decide) rfl
  | stat => exact enters_of Tryz.func79 (by decide) rfl
  | take => exact enters_of Tryz.func78 (by decide) rfl
  | visit => exact enters_of Tryz.func76 (by decide) rfl
  | inspect => exact enters_of Tryz.func116 (by decide) rfl
  | finish => exact enters_of Tryz.func172 (by decide) rfl
  | endOp => exact enters_of Tryz.func80 (by decide) rfl
  | done => exact absurd rfl h
theorem Y.lock (H : Y b S r W) (hr : Rm 0 S) (hF : Fit b.C S r) (hm : r.mu ≠ -1) : Calls Tryz.prog 43 #[ptr b.mb, .int .i64 r.t, .int .i64 r.mu] W fun e w' => e = .returned (.bool (lockB S.ms r.t r.mu)) ∧ Y b (lockedS S r) r w' := by
  unfold lockedS; rw [if_neg hm]
  exact H.does fun Om h => Me.lock_any h r.t r.mu hF.tt.2 hr.l
theorem Rm.locked {n : Nat} (h : Rm (n + 1) S) : Rm n (lockedS S r) := by
  unfold lockedS; split
  · exact h.mono (by omega)
  · have := len_lock S.ms r.t r.mu
    exact ⟨by have := h.l; show (lockS S.ms r.t r.mu).ls.length + n ≤ _; omega, by have := h.f; show S.fs.length + n ≤ _; omega, by have := h.p; show S.pts.length + n ≤ _; omega, by have := h.w; show (lockS S.ms r.t r.mu).ws.length + n < _; omega⟩
theorem Rm.called {n : Nat} (h : Rm (n + 1) S) : Rm n (calledS S r) := by
  unfold calledS; split
  · exact h.mono (by omega)
  · exact h.say ..
theorem Fit.called (hF : Fit b.C S r) : Fit b.C (calledS (lockedS S r) r) { r with mu := -1, cal := true } :=
  ⟨hF.wf, hF.wg, hF.wc, hF.k, hF.p, hF.st, hF.cn, hF.cT, hF.z, fun h => by
    have h1 := hF.mr h
    have e : (lockedS S r).pts = S.pts := by unfold lockedS; split <;> rfl
    show r.mr < (calledS (lockedS S r) r).pts.length
    unfold calledS; split
    · rw [e]; exact h1
    · simp only [say, List.length_append, List.length_cons, List.length_nil, e]; omega, hF.q, hF.tt⟩
set_option maxHeartbeats 4000000 in
theorem step_any (H : Y b S r W) (hr : Rm 12 S) (hF : Fit b.C S r) (he : Env b.w0) : Calls Tryz.prog 14 #[ptr b.g] W (Yd b (.bool (canB S r)) (stepA b.C S r).1 (stepA b.C S r).2) := by
  have HR := Lib.hid hr
  have HF := Lib.hid hF
  have HE := Lib.hid he
  have H0 := Lib.hid H
  by_cases hd : r.at_ = .done
  · have hc : canB S r = false := by unfold canB; rw [decide_eq_false (by simpa using hd)]; rfl
    rw [show stepA b.C S r = (S, r) by unfold stepA; rw [hc]; rfl, hc]
    have y0 := H.cell 3 (nextV r.at_) (fun _ _ => rfl)
    rw [show nextV r.at_ = .nilFunc by rw [hd]; rfl] at y0
    have q0 := fun w => nil_nil w
    clear H hr hF he hd hc
    go_enter Tryz.func14, Tryz.ntmps14
    go_wp2_with fail
    go_ret
    exact ⟨rfl, H0.out⟩
  · have y0 := H.cell 3 (nextV r.at_) (fun _ _ => rfl)
    rw [next_is hd] at y0
    have HD := Lib.hid hd
    obtain ⟨fn, hfn⟩ : ∃ n, fid r.at_ = n := ⟨_, rfl⟩
    have HFN := Lib.hid hfn
    rw [hfn] at y0
    have q0 := fun w => func_nil fn w
    have HEN : Hid (Enters Tryz.prog fn) := hfn ▸ fid_enters r.at_ hd
    have HRL : Hid (Rm 11 (lockedS S r)) := hr.locked
    have HRM : Hid (Rm 10 (calledS (lockedS S r) r)) := HRL.out.called
    have HFC := Lib.hid hF.called
    clear hfn
    by_cases hm : r.mu = -1
    · have hc : canB S r = true := by unfold canB; rw [decide_eq_true hd, show (r.mu == -1) = true by simpa using hm]; rfl
      rw [show stepA b.C S r = actA b.C (calledS (lockedS S r) r) { r with mu := -1, cal := true } by unfold stepA; rw [hc, if_pos rfl], hc]
      clear hc
      cases hcal : r.cal
      · have HCAL : Hid (r.cal = false) := hcal
        have HCS : Hid (calledS (lockedS S r) r = say (lockedS S r) { r with mu := -1, cal := true } 1 k0 0 0) := by show _ = _; unfold calledS; rw [hcal]; rfl
        clear hcal
        have HMU : Hid ((r.mu == -1) = true) := by show _ = _; simpa using hm
        have HLS : Hid (Y b (lockedS S r) r W) := by unfold lockedS; rw [if_pos hm]; exact H0.out
        clear hm H hr hF he hd
        go_enter Tryz.func14, Tryz.ntmps14
        go_wp2_with fail
        refine wp_region_held_drew (S := fun w' => w'.cell? ⟨b.g, 4, none⟩ = some (.int .i64 r.mu) ∧ w'.cell? ⟨b.g, 0, none⟩ = some (ptr b.B) ∧ w'.cell? ⟨b.B, 18, none⟩ = some (ptr b.mb) ∧ w'.cell? ⟨b.g, 1, none⟩ = some (.int .i64 r.t)) (by kernel_rfl) (⟨H0.out.drew.cell 4 (.int .i64 r.mu) (fun _ _ => rfl), H0.out.drew.cell 0 (ptr b.B) (fun _ _ => rfl), H0.out.drew.shared 18 (ptr b.mb) (fun _ => rfl), H0.out.drew.cell 1 (.int .i64 r.t) (fun _ _ => rfl)⟩) (fun hH => ?_)
        refine wpAnyH_take (i := 0) (oi := ⟨some 12, _, _, _, _, _⟩) (v := ?v1) rfl (by kernel_rfl) (by kernel_rfl) (by kernel_rfl) (fun _ _ _ h => h) (Or.inl ⟨rfl, ?c1⟩) hH ?r1
        case c1 => (intro w' _; go_simp; (try with_reducible rfl))
        try simp only [Act.put, List.setIfInBounds_toArray, List.set_cons_zero, List.set_cons_succ]
        refine wpAnyH_take (i := 1) (oi := ⟨some 13, _, _, _, _, _⟩) (v := ?v2) rfl (by kernel_rfl) (by kernel_rfl) (by kernel_rfl) (fun _ _ _ h => h) (Or.inl ⟨rfl, ?c2⟩) hH ?r2
        case c2 => (intro w' _; go_simp; (try with_reducible rfl))
        try simp only [Act.put, List.setIfInBounds_toArray, List.set_cons_zero, List.set_cons_succ]
        refine wpAnyH_take (i := 2) (oi := ⟨some 14, _, _, _, _, _⟩) (v := ?v3) rfl (by kernel_rfl) (by kernel_rfl) (by kernel_rfl) (fun _ _ _ h => h) (Or.inl ⟨rfl, ?c3⟩) hH ?r3
        case c3 => (intro w' _; go_simp; (try with_reducible rfl))
        try simp only [Act.put, List.setIfInBounds_toArray, List.set_cons_zero, List.set_cons_succ]
        refine wpAnyH_take (i := 3) (oi := ⟨some 15, _, _, _, _, _⟩) (v := ?v4) rfl (by kernel_rfl) (by kernel_rfl) (by kernel_rfl) (fun _ _ _ h => h) (Or.inl ⟨rfl, ?c4⟩) hH ?r4
        case c4 => (intro w' hS; (try dsimp only at hS); go_simp; (try with_reducible rfl))
        try simp only [Act.put, List.setIfInBounds_toArray, List.set_cons_zero, List.set_cons_succ]
        refine wpAnyH_take (i := 4) (oi := ⟨some 16, _, _, _, _, _⟩) (v := ?v5) rfl (by kernel_rfl) (by kernel_rfl) (by kernel_rfl) (fun _ _ _ h => h) (Or.inl ⟨rfl, ?c5⟩) hH ?r5
        case c5 => (intro w' hS; have hm1 := HMU.out; have hm2 : decide (r.mu = -1) = true := (by simpa using hm1); have hm3 : (r.mu != -1) = false := (by simpa using hm1); go_simp; (try with_reducible rfl))
        try simp only [Act.put, List.setIfInBounds_toArray, List.set_cons_zero, List.set_cons_succ]
        refine wpAnyH_take (i := 5) (oi := ⟨some 17, _, _, _, _, _⟩) (v := ?v6) rfl (by kernel_rfl) (by kernel_rfl) (by kernel_rfl) (fun _ _ _ h => h) (Or.inl ⟨rfl, ?c6⟩) hH ?r6
        case c6 => (intro w' _; go_simp; (try with_reducible rfl))
        try simp only [Act.put, List.setIfInBounds_toArray, List.set_cons_zero, List.set_cons_succ]
        refine wpAnyH_take (i := 6) (oi := ⟨some 18, _, _, _, _, _⟩) (v := undef) rfl (by kernel_rfl) (by kernel_rfl) (by kernel_rfl) (fun _ _ _ h => h) (Or.inr ⟨rfl, rfl⟩) hH ?_
        try simp only [Act.put, List.setIfInBounds_toArray, List.set_cons_zero, List.set_cons_succ]
        refine wpAnyH_take (i := 7) (oi := ⟨some 19, _, _, _, _, _⟩) (v := undef) rfl (by kernel_rfl) (by kernel_rfl) (by kernel_rfl) (fun _ _ _ h => h) (Or.inr ⟨rfl, rfl⟩) hH ?_
        try simp only [Act.put, List.setIfInBounds_toArray, List.set_cons_zero, List.set_cons_succ]
        refine wpAnyH_take (i := 8) (oi := ⟨some 20, _, _, _, _, _⟩) (v := undef) rfl (by kernel_rfl) (by kernel_rfl) (by kernel_rfl) (fun _ _ _ h => h) (Or.inr ⟨rfl, rfl⟩) hH ?_
        try simp only [Act.put, List.setIfInBounds_toArray, List.set_cons_zero, List.set_cons_succ]
        refine wpAnyH_take (i := 9) (oi := ⟨some 21, _, _, _, _, _⟩) (v := undef) rfl (by kernel_rfl) (by kernel_rfl) (by kernel_rfl) (fun _ _ _ h => h) (Or.inr ⟨rfl, rfl⟩) hH ?_
        try simp only [Act.put, List.setIfInBounds_toArray, List.set_cons_zero, List.set_cons_succ]
        refine wpAnyH_take (i := 10) (oi := ⟨some 22, _, _, _, _, _⟩) (v := undef) rfl (by kernel_rfl) (by kernel_rfl) (by kernel_rfl) (fun _ _ _ h => h) (Or.inr ⟨rfl, rfl⟩) hH ?_
        try simp only [Act.put, List.setIfInBounds_toArray, List.set_cons_zero, List.set_cons_succ]
        refine wpAnyH_take (i := 11) (oi := ⟨some 23, _, _, _, _, _⟩) (v := undef) rfl (by kernel_rfl) (by kernel_rfl) (by kernel_rfl) (fun _ _ _ h => h) (Or.inr ⟨rfl, rfl⟩) hH ?_
        try simp only [Act.put, List.setIfInBounds_toArray, List.set_cons_zero, List.set_cons_succ]
        refine wpAnyH_take (i := 12) (oi := ⟨some 24, _, _, _, _, _⟩) (v := undef) rfl (by kernel_rfl) (by kernel_rfl) (by kernel_rfl) (fun _ _ _ h => h) (Or.inr ⟨rfl, rfl⟩) hH ?_
        try simp only [Act.put, List.setIfInBounds_toArray, List.set_cons_zero, List.set_cons_succ]
        refine wpAnyH_take (i := 13) (oi := ⟨some 25, _, _, _, _, _⟩) (v := undef) rfl (by kernel_rfl) (by kernel_rfl) (by kernel_rfl) (fun _ _ _ h => h) (Or.inr ⟨rfl, rfl⟩) hH ?_
        try simp only [Act.put, List.setIfInBounds_toArray, List.set_cons_zero, List.set_cons_succ]
        refine wpAnyH_take (i := 14) (oi := ⟨some 26, _, _, _, _, _⟩) (v := undef) rfl (by kernel_rfl) (by kernel_rfl) (by kernel_rfl) (fun _ _ _ h => h) (Or.inr ⟨rfl, rfl⟩) hH ?_
        try simp only [Act.put, List.setIfInBounds_toArray, List.set_cons_zero, List.set_cons_succ]
        refine wpAnyH_take (i := 15) (oi := ⟨some 27, _, _, _, _, _⟩) (v := undef) rfl (by kernel_rfl) (by kernel_rfl) (by kernel_rfl) (fun _ _ _ h => h) (Or.inr ⟨rfl, rfl⟩) hH ?_
        try simp only [Act.put, List.setIfInBounds_toArray, List.set_cons_zero, List.set_cons_succ]
        refine wpAnyH_take (i := 16) (oi := ⟨some 28, _, _, _, _, _⟩) (v := undef) rfl (by kernel_rfl) (by kernel_rfl) (by kernel_rfl) (fun _ _ _ h => h) (Or.inr ⟨rfl, rfl⟩) hH ?_
        try simp only [Act.put, List.setIfInBounds_toArray, List.set_cons_zero, List.set_cons_succ]
        refine wpAnyH_take (i := 17) (oi := ⟨some 29, _, _, _, _, _⟩) (v := undef) rfl (by kernel_rfl) (by kernel_rfl) (by kernel_rfl) (fun _ _ _ h => h) (Or.inr ⟨rfl, rfl⟩) hH ?_
        try simp only [Act.put, List.setIfInBounds_toArray, List.set_cons_zero, List.set_cons_succ]
        refine wpAnyH_take (i := 18) (oi := ⟨some 30, _, _, _, _, _⟩) (v := undef) rfl (by kernel_rfl) (by kernel_rfl) (by kernel_rfl) (fun _ _ _ h => h) (Or.inr ⟨rfl, rfl⟩) hH ?_
        try simp only [Act.put, List.setIfInBounds_toArray, List.set_cons_zero, List.set_cons_succ]
        refine wpAnyH_take (i := 19) (oi := ⟨some 31, _, _, _, _, _⟩) (v := undef) rfl (by kernel_rfl) (by kernel_rfl) (by kernel_rfl) (fun _ _ _ h => h) (Or.inr ⟨rfl, rfl⟩) hH ?_
        try simp only [Act.put, List.setIfInBounds_toArray, List.set_cons_zero, List.set_cons_succ]
        refine wpAnyH_take (i := 20) (oi := ⟨some 32, _, _, _, _, _⟩) (v := undef) rfl (by kernel_rfl) (by kernel_rfl) (by kernel_rfl) (fun _ _ _ h => h) (Or.inr ⟨rfl, rfl⟩) hH ?_
        try simp only [Act.put, List.setIfInBounds_toArray, List.set_cons_zero, List.set_cons_succ]
        refine wpAnyH_take (i := 21) (oi := ⟨some 33, _, _, _, _, _⟩) (v := undef) rfl (by kernel_rfl) (by kernel_rfl) (by kernel_rfl) (fun _ _ _ h => h) (Or.inr ⟨rfl, rfl⟩) hH ?_
        try simp only [Act.put, List.setIfInBounds_toArray, List.set_cons_zero, List.set_cons_succ]
        refine wpAnyH_take (i := 22) (oi := ⟨some 34, _, _, _, _, _⟩) (v := undef) rfl (by kernel_rfl) (by kernel_rfl) (by kernel_rfl) (fun _ _ _ h => h) (Or.inr ⟨rfl, rfl⟩) hH ?_
        try simp only [Act.put, List.setIfInBounds_toArray, List.set_cons_zero, List.set_cons_succ]
        refine wpAnyH_take (i := 23) (oi := ⟨some 35, _, _, _, _, _⟩) (v := ?v24) rfl (by kernel_rfl) (by kernel_rfl) (by kernel_rfl) (fun _ _ _ h => h) (Or.inl ⟨rfl, ?c24⟩) hH ?r24
        case c24 => (intro w' _; go_simp; (try with_reducible rfl))
        try simp only [Act.put, List.setIfInBounds_toArray, List.set_cons_zero, List.set_cons_succ]
        refine wpAnyH_done (by kernel_rfl) ?_ _
        clear hH q0 y0
        obtain ⟨w1, hw1⟩ : ∃ VV, W.drew = VV := ⟨_, rfl⟩
        have H1 : Hid (Y b (lockedS S r) r w1) := hw1 ▸ Lib.hid HLS.out.drew
        rw [hw1]
        clear hw1
        have HS := Lib.hid (H1.out.set (r' := { r with mu := -1 }) 4 (.int .i64 (-1)) (fun _ _ => rfl) rfl rfl)
        have f0 := H1.out.frozen 4
        have c0 := H1.out.cell 4 (.int .i64 r.mu) (fun _ _ => rfl)
        have c1 : (w1.setCell ⟨b.g, 4, none⟩ (.int .i64 (-1))).cell? ⟨b.g, 5, none⟩ = some (.bool r.cal) := HS.out.cell 5 _ (fun _ _ => rfl)
        rw [HCAL.out] at c1
        clear H1
        have HS2 := Lib.hid (HS.out.set (r' := { r with mu := -1, cal := true }) 5 (.bool true) (fun _ _ => rfl) rfl rfl)
        have f1 := HS.out.frozen 5
        clear HS
        go_wp2_with fail
        go_at_call 44
        refine (record0 HS2.out (HRL.out.mono (by omega)) 1 0 0).mono ?_
        rintro e w2 ⟨rfl, hy⟩
        have H2 : Hid (Y b (calledS (lockedS S r) r) { r with mu := -1, cal := true } w2) := by rw [HCS.out]; exact hy
        clear hy f0 c0 c1 f1 HS2
        have c2 : w2.cell? ⟨b.g, 3, none⟩ = some (nextV r.at_) := H2.out.cell 3 _ (fun _ _ => rfl)
        rw [next_is HD.out, HFN.out] at c2
        have eg := HEN.out
        unfold Enters at eg
        go_wp2_with fail
        have HAC := Lib.hid (act_any H2.out (HRM.out.mono (by omega)) HFC.out HE.out HD.out)
        rw [show fid ({ r with mu := -1, cal := true } : Rn).at_ = fn from HFN.out] at HAC
        refine HAC.out.mono ?_
        rintro e w3 ⟨rfl, hy⟩
        have H3 := Lib.hid hy
        clear hy c2 HAC
        (try clear f0 c0 c1 HS)
        go_wp2_with fail
        go_ret
        exact ⟨rfl, H3.out⟩
      · have HCAL : Hid (r.cal = true) := hcal
        have HCS : Hid (lockedS S r = calledS (lockedS S r) r) := by show _ = _; unfold calledS; rw [hcal]; rfl
        have HCR : Hid (({ r with mu := -1 } : Rn) = { r with mu := -1, cal := true }) := by show _ = _; rw [← hcal]
        clear hcal
        have HMU : Hid ((r.mu == -1) = true) := by show _ = _; simpa using hm
        have HLS : Hid (Y b (lockedS S r) r W) := by unfold lockedS; rw [if_pos hm]; exact H0.out
        clear hm H hr hF he hd
        go_enter Tryz.func14, Tryz.ntmps14
        go_wp2_with fail
        refine wp_region_held_drew (S := fun w' => w'.cell? ⟨b.g, 4, none⟩ = some (.int .i64 r.mu) ∧ w'.cell? ⟨b.g, 0, none⟩ = some (ptr b.B) ∧ w'.cell? ⟨b.B, 18, none⟩ = some (ptr b.mb) ∧ w'.cell? ⟨b.g, 1, none⟩ = some (.int .i64 r.t)) (by kernel_rfl) (⟨H0.out.drew.cell 4 (.int .i64 r.mu) (fun _ _ => rfl), H0.out.drew.cell 0 (ptr b.B) (fun _ _ => rfl), H0.out.drew.shared 18 (ptr b.mb) (fun _ => rfl), H0.out.drew.cell 1 (.int .i64 r.t) (fun _ _ => rfl)⟩) (fun hH => ?_)
        refine wpAnyH_take (i := 0) (oi := ⟨some 12, _, _, _, _, _⟩) (v := ?v25) rfl (by kernel_rfl) (by kernel_rfl) (by kernel_rfl) (fun _ _ _ h => h) (Or.inl ⟨rfl, ?c25⟩) hH ?r25
        case c25 => (intro w' _; go_simp; (try with_reducible rfl))
        try simp only [Act.put, List.setIfInBounds_toArray, List.set_cons_zero, List.set_cons_succ]
        refine wpAnyH_take (i := 1) (oi := ⟨some 13, _, _, _, _, _⟩) (v := ?v26) rfl (by kernel_rfl) (by kernel_rfl) (by kernel_rfl) (fun _ _ _ h => h) (Or.inl ⟨rfl, ?c26⟩) hH ?r26
        case c26 => (intro w' _; go_simp; (try with_reducible rfl))
        try simp only [Act.put, List.setIfInBounds_toArray, List.set_cons_zero, List.set_cons_succ]
        refine wpAnyH_take (i := 2) (oi := ⟨some 14, _, _, _, _, _⟩) (v := ?v27) rfl (by kernel_rfl) (by kernel_rfl) (by kernel_rfl) (fun _ _ _ h => h) (Or.inl ⟨rfl, ?c27⟩) hH ?r27
        case c27 => (intro w' _; go_simp; (try with_reducible rfl))
        try simp only [Act.put, List.setIfInBounds_toArray, List.set_cons_zero, List.set_cons_succ]
        refine wpAnyH_take (i := 3) (oi := ⟨some 15, _, _, _, _, _⟩) (v := ?v28) rfl (by kernel_rfl) (by kernel_rfl) (by kernel_rfl) (fun _ _ _ h => h) (Or.inl ⟨rfl, ?c28⟩) hH ?r28
        case c28 => (intro w' hS; (try dsimp only at hS); go_simp; (try with_reducible rfl))
        try simp only [Act.put, List.setIfInBounds_toArray, List.set_cons_zero, List.set_cons_succ]
        refine wpAnyH_take (i := 4) (oi := ⟨some 16, _, _, _, _, _⟩) (v := ?v29) rfl (by kernel_rfl) (by kernel_rfl) (by kernel_rfl) (fun _ _ _ h => h) (Or.inl ⟨rfl, ?c29⟩) hH ?r29
        case c29 => (intro w' hS; have hm1 := HMU.out; have hm2 : decide (r.mu = -1) = true := (by simpa using hm1); have hm3 : (r.mu != -1) = false := (by simpa using hm1); go_simp; (try with_reducible rfl))
        try simp only [Act.put, List.setIfInBounds_toArray, List.set_cons_zero, List.set_cons_succ]
        refine wpAnyH_take (i := 5) (oi := ⟨some 17, _, _, _, _, _⟩) (v := ?v30) rfl (by kernel_rfl) (by kernel_rfl) (by kernel_rfl) (fun _ _ _ h => h) (Or.inl ⟨rfl, ?c30⟩) hH ?r30
        case c30 => (intro w' _; go_simp; (try with_reducible rfl))
        try simp only [Act.put, List.setIfInBounds_toArray, List.set_cons_zero, List.set_cons_succ]
        refine wpAnyH_take (i := 6) (oi := ⟨some 18, _, _, _, _, _⟩) (v := undef) rfl (by kernel_rfl) (by kernel_rfl) (by kernel_rfl) (fun _ _ _ h => h) (Or.inr ⟨rfl, rfl⟩) hH ?_
        try simp only [Act.put, List.setIfInBounds_toArray, List.set_cons_zero, List.set_cons_succ]
        refine wpAnyH_take (i := 7) (oi := ⟨some 19, _, _, _, _, _⟩) (v := undef) rfl (by kernel_rfl) (by kernel_rfl) (by kernel_rfl) (fun _ _ _ h => h) (Or.inr ⟨rfl, rfl⟩) hH ?_
        try simp only [Act.put, List.setIfInBounds_toArray, List.set_cons_zero, List.set_cons_succ]
        refine wpAnyH_take (i := 8) (oi := ⟨some 20, _, _, _, _, _⟩) (v := undef) rfl (by kernel_rfl) (by kernel_rfl) (by kernel_rfl) (fun _ _ _ h => h) (Or.inr ⟨rfl, rfl⟩) hH ?_
        try simp only [Act.put, List.setIfInBounds_toArray, List.set_cons_zero, List.set_cons_succ]
        refine wpAnyH_take (i := 9) (oi := ⟨some 21, _, _, _, _, _⟩) (v := undef) rfl (by kernel_rfl) (by kernel_rfl) (by kernel_rfl) (fun _ _ _ h => h) (Or.inr ⟨rfl, rfl⟩) hH ?_
        try simp only [Act.put, List.setIfInBounds_toArray, List.set_cons_zero, List.set_cons_succ]
        refine wpAnyH_take (i := 10) (oi := ⟨some 22, _, _, _, _, _⟩) (v := undef) rfl (by kernel_rfl) (by kernel_rfl) (by kernel_rfl) (fun _ _ _ h => h) (Or.inr ⟨rfl, rfl⟩) hH ?_
        try simp only [Act.put, List.setIfInBounds_toArray, List.set_cons_zero, List.set_cons_succ]
        refine wpAnyH_take (i := 11) (oi := ⟨some 23, _, _, _, _, _⟩) (v := undef) rfl (by kernel_rfl) (by kernel_rfl) (by kernel_rfl) (fun _ _ _ h => h) (Or.inr ⟨rfl, rfl⟩) hH ?_
        try simp only [Act.put, List.setIfInBounds_toArray, List.set_cons_zero, List.set_cons_succ]
        refine wpAnyH_take (i := 12) (oi := ⟨some 24, _, _, _, _, _⟩) (v := undef) rfl (by kernel_rfl) (by kernel_rfl) (by kernel_rfl) (fun _ _ _ h => h) (Or.inr ⟨rfl, rfl⟩) hH ?_
        try simp only [Act.put, List.setIfInBounds_toArray, List.set_cons_zero, List.set_cons_succ]
        refine wpAnyH_take (i := 13) (oi := ⟨some 25, _, _, _, _, _⟩) (v := undef) rfl (by kernel_rfl) (by kernel_rfl) (by kernel_rfl) (fun _ _ _ h => h) (Or.inr ⟨rfl, rfl⟩) hH ?_
        try simp only [Act.put, List.setIfInBounds_toArray, List.set_cons_zero, List.set_cons_succ]
        refine wpAnyH_take (i := 14) (oi := ⟨some 26, _, _, _, _, _⟩) (v := undef) rfl (by kernel_rfl) (by kernel_rfl) (by kernel_rfl) (fun _ _ _ h => h) (Or.inr ⟨rfl, rfl⟩) hH ?_
        try simp only [Act.put, List.setIfInBounds_toArray, List.set_cons_zero, List.set_cons_succ]
        refine wpAnyH_take (i := 15) (oi := ⟨some 27, _, _, _, _, _⟩) (v := undef) rfl (by kernel_rfl) (by kernel_rfl) (by kernel_rfl) (fun _ _ _ h => h) (Or.inr ⟨rfl, rfl⟩) hH ?_
        try simp only [Act.put, List.setIfInBounds_toArray, List.set_cons_zero, List.set_cons_succ]
        refine wpAnyH_take (i := 16) (oi := ⟨some 28, _, _, _, _, _⟩) (v := undef) rfl (by kernel_rfl) (by kernel_rfl) (by kernel_rfl) (fun _ _ _ h => h) (Or.inr ⟨rfl, rfl⟩) hH ?_
        try simp only [Act.put, List.setIfInBounds_toArray, List.set_cons_zero, List.set_cons_succ]
        refine wpAnyH_take (i := 17) (oi := ⟨some 29, _, _, _, _, _⟩) (v := undef) rfl (by kernel_rfl) (by kernel_rfl) (by kernel_rfl) (fun _ _ _ h => h) (Or.inr ⟨rfl, rfl⟩) hH ?_
        try simp only [Act.put, List.setIfInBounds_toArray, List.set_cons_zero, List.set_cons_succ]
        refine wpAnyH_take (i := 18) (oi := ⟨some 30, _, _, _, _, _⟩) (v := undef) rfl (by kernel_rfl) (by kernel_rfl) (by kernel_rfl) (fun _ _ _ h => h) (Or.inr ⟨rfl, rfl⟩) hH ?_
        try simp only [Act.put, List.setIfInBounds_toArray, List.set_cons_zero, List.set_cons_succ]
        refine wpAnyH_take (i := 19) (oi := ⟨some 31, _, _, _, _, _⟩) (v := undef) rfl (by kernel_rfl) (by kernel_rfl) (by kernel_rfl) (fun _ _ _ h => h) (Or.inr ⟨rfl, rfl⟩) hH ?_
        try simp only [Act.put, List.setIfInBounds_toArray, List.set_cons_zero, List.set_cons_succ]
        refine wpAnyH_take (i := 20) (oi := ⟨some 32, _, _, _, _, _⟩) (v := undef) rfl (by kernel_rfl) (by kernel_rfl) (by kernel_rfl) (fun _ _ _ h => h) (Or.inr ⟨rfl, rfl⟩) hH ?_
        try simp only [Act.put, List.setIfInBounds_toArray, List.set_cons_zero, List.set_cons_succ]
        refine wpAnyH_take (i := 21) (oi := ⟨some 33, _, _, _, _, _⟩) (v := undef) rfl (by kernel_rfl) (by kernel_rfl) (by kernel_rfl) (fun _ _ _ h => h) (Or.inr ⟨rfl, rfl⟩) hH ?_
        try simp only [Act.put, List.setIfInBounds_toArray, List.set_cons_zero, List.set_cons_succ]
        refine wpAnyH_take (i := 22) (oi := ⟨some 34, _, _, _, _, _⟩) (v := undef) rfl (by kernel_rfl) (by kernel_rfl) (by kernel_rfl) (fun _ _ _ h => h) (Or.inr ⟨rfl, rfl⟩) hH ?_
        try simp only [Act.put, List.setIfInBounds_toArray, List.set_cons_zero, List.set_cons_succ]
        refine wpAnyH_take (i := 23) (oi := ⟨some 35, _, _, _, _, _⟩) (v := ?v48) rfl (by kernel_rfl) (by kernel_rfl) (by kernel_rfl) (fun _ _ _ h => h) (Or.inl ⟨rfl, ?c48⟩) hH ?r48
        case c48 => (intro w' _; go_simp; (try with_reducible rfl))
        try simp only [Act.put, List.setIfInBounds_toArray, List.set_cons_zero, List.set_cons_succ]
        refine wpAnyH_done (by kernel_rfl) ?_ _
        clear hH q0 y0
        obtain ⟨w1, hw1⟩ : ∃ VV, W.drew = VV := ⟨_, rfl⟩
        have H1 : Hid (Y b (lockedS S r) r w1) := hw1 ▸ Lib.hid HLS.out.drew
        rw [hw1]
        clear hw1
        have HS := Lib.hid (H1.out.set (r' := { r with mu := -1 }) 4 (.int .i64 (-1)) (fun _ _ => rfl) rfl rfl)
        have f0 := H1.out.frozen 4
        have c0 := H1.out.cell 4 (.int .i64 r.mu) (fun _ _ => rfl)
        have c1 : (w1.setCell ⟨b.g, 4, none⟩ (.int .i64 (-1))).cell? ⟨b.g, 5, none⟩ = some (.bool r.cal) := HS.out.cell 5 _ (fun _ _ => rfl)
        rw [HCAL.out] at c1
        clear H1
        have c2 : (w1.setCell ⟨b.g, 4, none⟩ (.int .i64 (-1))).cell? ⟨b.g, 3, none⟩ = some (nextV r.at_) := HS.out.cell 3 _ (fun _ _ => rfl)
        rw [next_is HD.out, HFN.out] at c2
        have eg := HEN.out
        unfold Enters at eg
        go_wp2_with fail
        have HAC := Lib.hid (act_any (r := { r with mu := -1, cal := true }) (HCS.out ▸ HCR.out ▸ HS.out) (HRM.out.mono (by omega)) HFC.out HE.out HD.out)
        rw [show fid ({ r with mu := -1, cal := true } : Rn).at_ = fn from HFN.out] at HAC
        refine HAC.out.mono ?_
        rintro e w3 ⟨rfl, hy⟩
        have H3 := Lib.hid hy
        clear hy c2 HAC
        (try clear f0 c0 c1 HS)
        go_wp2_with fail
        go_ret
        exact ⟨rfl, H3.out⟩
    · cases hl : lockB S.ms r.t r.mu
      · have hc : canB S r = false := by unfold canB; rw [hl, show (r.mu == -1) = false by simpa using hm]; simp
        rw [show stepA b.C S r = (S, r) by unfold stepA; rw [hc]; rfl, hc]
        have HMU : Hid ((r.mu == -1) = false) := by show _ = _; simpa using hm
        have HLK : Hid (∀ W, Y b S r W → Calls Tryz.prog 43 #[ptr b.mb, .int .i64 r.t, .int .i64 r.mu] W fun e w' => e = .returned (.bool false) ∧ Y b S r w') := fun W h => by
          have := h.lock (hr.mono (by omega)) hF hm
          rw [hl, show lockedS S r = S by unfold lockedS; rw [if_neg hm, show lockS S.ms r.t r.mu = S.ms by unfold lockS; rw [hl]; rfl]] at this
          exact this
        clear hm hl hc H hr hF he hd
        go_enter Tryz.func14, Tryz.ntmps14
        go_wp2_with fail
        refine wp_region_held_drew (S := fun w' => w'.cell? ⟨b.g, 4, none⟩ = some (.int .i64 r.mu) ∧ w'.cell? ⟨b.g, 0, none⟩ = some (ptr b.B) ∧ w'.cell? ⟨b.B, 18, none⟩ = some (ptr b.mb) ∧ w'.cell? ⟨b.g, 1, none⟩ = some (.int .i64 r.t)) (by kernel_rfl) (⟨H0.out.drew.cell 4 (.int .i64 r.mu) (fun _ _ => rfl), H0.out.drew.cell 0 (ptr b.B) (fun _ _ => rfl), H0.out.drew.shared 18 (ptr b.mb) (fun _ => rfl), H0.out.drew.cell 1 (.int .i64 r.t) (fun _ _ => rfl)⟩) (fun hH => ?_)
        refine wpAnyH_take (i := 0) (oi := ⟨some 12, _, _, _, _, _⟩) (v := ?v49) rfl (by kernel_rfl) (by kernel_rfl) (by kernel_rfl) (fun _ _ _ h => h) (Or.inl ⟨rfl, ?c49⟩) hH ?r49
        case c49 => (intro w' _; go_simp; (try with_reducible rfl))
        try simp only [Act.put, List.setIfInBounds_toArray, List.set_cons_zero, List.set_cons_succ]
        refine wpAnyH_take (i := 1) (oi := ⟨some 13, _, _, _, _, _⟩) (v := ?v50) rfl (by kernel_rfl) (by kernel_rfl) (by kernel_rfl) (fun _ _ _ h => h) (Or.inl ⟨rfl, ?c50⟩) hH ?r50
        case c50 => (intro w' _; go_simp; (try with_reducible rfl))
        try simp only [Act.put, List.setIfInBounds_toArray, List.set_cons_zero, List.set_cons_succ]
        refine wpAnyH_take (i := 2) (oi := ⟨some 14, _, _, _, _, _⟩) (v := ?v51) rfl (by kernel_rfl) (by kernel_rfl) (by kernel_rfl) (fun _ _ _ h => h) (Or.inl ⟨rfl, ?c51⟩) hH ?r51
        case c51 => (intro w' _; go_simp; (try with_reducible rfl))
        try simp only [Act.put, List.setIfInBounds_toArray, List.set_cons_zero, List.set_cons_succ]
        refine wpAnyH_take (i := 3) (oi := ⟨some 15, _, _, _, _, _⟩) (v := ?v52) rfl (by kernel_rfl) (by kernel_rfl) (by kernel_rfl) (fun _ _ _ h => h) (Or.inl ⟨rfl, ?c52⟩) hH ?r52
        case c52 => (intro w' hS; (try dsimp only at hS); go_simp; (try with_reducible rfl))
        try simp only [Act.put, List.setIfInBounds_toArray, List.set_cons_zero, List.set_cons_succ]
        refine wpAnyH_take (i := 4) (oi := ⟨some 16, _, _, _, _, _⟩) (v := ?v53) rfl (by kernel_rfl) (by kernel_rfl) (by kernel_rfl) (fun _ _ _ h => h) (Or.inl ⟨rfl, ?c53⟩) hH ?r53
        case c53 => (intro w' hS; have hm1 := HMU.out; have hm2 : decide (r.mu = -1) = false := (by simpa using hm1); have hm3 : (r.mu != -1) = true := (by simpa using hm1); go_simp; (try with_reducible rfl))
        try simp only [Act.put, List.setIfInBounds_toArray, List.set_cons_zero, List.set_cons_succ]
        refine wpAnyH_take (i := 5) (oi := ⟨some 17, _, _, _, _, _⟩) (v := ?v54) rfl (by kernel_rfl) (by kernel_rfl) (by kernel_rfl) (fun _ _ _ h => h) (Or.inl ⟨rfl, ?c54⟩) hH ?r54
        case c54 => (intro w' _; go_simp; (try with_reducible rfl))
        try simp only [Act.put, List.setIfInBounds_toArray, List.set_cons_zero, List.set_cons_succ]
        refine wpAnyH_take (i := 6) (oi := ⟨some 18, _, _, _, _, _⟩) (v := ?v55) rfl (by kernel_rfl) (by kernel_rfl) (by kernel_rfl) (fun _ _ _ h => h) (Or.inl ⟨rfl, ?c55⟩) hH ?r55
        case c55 => (intro w' _; go_simp; (try with_reducible rfl))
        try simp only [Act.put, List.setIfInBounds_toArray, List.set_cons_zero, List.set_cons_succ]
        refine wpAnyH_take (i := 7) (oi := ⟨some 19, _, _, _, _, _⟩) (v := ?v56) rfl (by kernel_rfl) (by kernel_rfl) (by kernel_rfl) (fun _ _ _ h => h) (Or.inl ⟨rfl, ?c56⟩) hH ?r56
        case c56 => (intro w' _; go_simp; (try with_reducible rfl))
        try simp only [Act.put, List.setIfInBounds_toArray, List.set_cons_zero, List.set_cons_succ]
        refine wpAnyH_take (i := 8) (oi := ⟨some 20, _, _, _, _, _⟩) (v := ?v57) rfl (by kernel_rfl) (by kernel_rfl) (by kernel_rfl) (fun _ _ _ h => h) (Or.inl ⟨rfl, ?c57⟩) hH ?r57
        case c57 => (intro w' _; go_simp; (try with_reducible rfl))
        try simp only [Act.put, List.setIfInBounds_toArray, List.set_cons_zero, List.set_cons_succ]
        refine wpAnyH_take (i := 9) (oi := ⟨some 21, _, _, _, _, _⟩) (v := ?v58) rfl (by kernel_rfl) (by kernel_rfl) (by kernel_rfl) (fun _ _ _ h => h) (Or.inl ⟨rfl, ?c58⟩) hH ?r58
        case c58 => (intro w' hS; (try dsimp only at hS); go_simp; (try with_reducible rfl))
        try simp only [Act.put, List.setIfInBounds_toArray, List.set_cons_zero, List.set_cons_succ]
        refine wpAnyH_take (i := 10) (oi := ⟨some 22, _, _, _, _, _⟩) (v := ?v59) rfl (by kernel_rfl) (by kernel_rfl) (by kernel_rfl) (fun _ _ _ h => h) (Or.inl ⟨rfl, ?c59⟩) hH ?r59
        case c59 => (intro w' _; go_simp; (try with_reducible rfl))
        try simp only [Act.put, List.setIfInBounds_toArray, List.set_cons_zero, List.set_cons_succ]
        refine wpAnyH_take (i := 11) (oi := ⟨some 23, _, _, _, _, _⟩) (v := ?v60) rfl (by kernel_rfl) (by kernel_rfl) (by kernel_rfl) (fun _ _ _ h => h) (Or.inl ⟨rfl, ?c60⟩) hH ?r60
        case c60 => (intro w' _; go_simp; (try with_reducible rfl))
        try simp only [Act.put, List.setIfInBounds_toArray, List.set_cons_zero, List.set_cons_succ]
        refine wpAnyH_take (i := 12) (oi := ⟨some 24, _, _, _, _, _⟩) (v := ?v61) rfl (by kernel_rfl) (by kernel_rfl) (by kernel_rfl) (fun _ _ _ h => h) (Or.inl ⟨rfl, ?c61⟩) hH ?r61
        case c61 => (intro w' hS; (try dsimp only at hS); go_simp; (try with_reducible rfl))
        try simp only [Act.put, List.setIfInBounds_toArray, List.set_cons_zero, List.set_cons_succ]
        refine wpAnyH_take (i := 13) (oi := ⟨some 25, _, _, _, _, _⟩) (v := ?v62) rfl (by kernel_rfl) (by kernel_rfl) (by kernel_rfl) (fun _ _ _ h => h) (Or.inl ⟨rfl, ?c62⟩) hH ?r62
        case c62 => (intro w' _; go_simp; (try with_reducible rfl))
        try simp only [Act.put, List.setIfInBounds_toArray, List.set_cons_zero, List.set_cons_succ]
        refine wpAnyH_take (i := 14) (oi := ⟨some 26, _, _, _, _, _⟩) (v := ?v63) rfl (by kernel_rfl) (by kernel_rfl) (by kernel_rfl) (fun _ _ _ h => h) (Or.inl ⟨rfl, ?c63⟩) hH ?r63
        case c63 => (intro w' _; go_simp; (try with_reducible rfl))
        try simp only [Act.put, List.setIfInBounds_toArray, List.set_cons_zero, List.set_cons_succ]
        refine wpAnyH_take (i := 15) (oi := ⟨some 27, _, _, _, _, _⟩) (v := ?v64) rfl (by kernel_rfl) (by kernel_rfl) (by kernel_rfl) (fun _ _ _ h => h) (Or.inl ⟨rfl, ?c64⟩) hH ?r64
        case c64 => (intro w' _; go_simp; (try with_reducible rfl))
        try simp only [Act.put, List.setIfInBounds_toArray, List.set_cons_zero, List.set_cons_succ]
        refine wpAnyH_take (i := 16) (oi := ⟨some 28, _, _, _, _, _⟩) (v := ?v65) rfl (by kernel_rfl) (by kernel_rfl) (by kernel_rfl) (fun _ _ _ h => h) (Or.inl ⟨rfl, ?c65⟩) hH ?r65
        case c65 => (intro w' hS; (try dsimp only at hS); go_simp; (try with_reducible rfl))
        try simp only [Act.put, List.setIfInBounds_toArray, List.set_cons_zero, List.set_cons_succ]
        refine wpAnyH_take (i := 17) (oi := ⟨some 29, _, _, _, _, _⟩) (v := ?v66) rfl (by kernel_rfl) (by kernel_rfl) (by kernel_rfl) (fun _ _ _ h => h) (Or.inl ⟨rfl, ?c66⟩) hH ?r66
        case c66 => (intro w' _; go_simp; (try with_reducible rfl))
        try simp only [Act.put, List.setIfInBounds_toArray, List.set_cons_zero, List.set_cons_succ]
        refine wpAnyH_take (i := 18) (oi := ⟨some 30, _, _, _, _, _⟩) (v := ?v67) rfl (by kernel_rfl) (by kernel_rfl) (by kernel_rfl) (fun _ _ _ h => h) (Or.inl ⟨rfl, ?c67⟩) hH ?r67
        case c67 => (intro w' _; go_simp; (try with_reducible rfl))
        try simp only [Act.put, List.setIfInBounds_toArray, List.set_cons_zero, List.set_cons_succ]
        refine wpAnyH_take (i := 19) (oi := ⟨some 31, _, _, _, _, _⟩) (v := ?v68) rfl (by kernel_rfl) (by kernel_rfl) (by kernel_rfl) (fun _ _ _ h => h) (Or.inl ⟨rfl, ?c68⟩) hH ?r68
        case c68 => (intro w' _; go_simp; (try with_reducible rfl))
        try simp only [Act.put, List.setIfInBounds_toArray, List.set_cons_zero, List.set_cons_succ]
        refine wpAnyH_take (i := 20) (oi := ⟨some 32, _, _, _, _, _⟩) (v := ?v69) rfl (by kernel_rfl) (by kernel_rfl) (by kernel_rfl) (fun _ _ _ h => h) (Or.inl ⟨rfl, ?c69⟩) hH ?r69
        case c69 => (intro w' hS; (try dsimp only at hS); go_simp; (try with_reducible rfl))
        try simp only [Act.put, List.setIfInBounds_toArray, List.set_cons_zero, List.set_cons_succ]
        refine wpAnyH_ready (rs := [21]) (by kernel_rfl) (by simp) (AllReadyH.cons rfl (fun K hK => ?_) (AllReadyH.nil))
        go_simp
        go_at_call 43
        refine (HLK.out _ H0.out.drew).mono ?_
        rintro e w1 ⟨rfl, hy⟩
        refine hK.out _ _ (⟨hy.cell 4 (.int .i64 r.mu) (fun _ _ => rfl), hy.cell 0 (ptr b.B) (fun _ _ => rfl), hy.shared 18 (ptr b.mb) (fun _ => rfl), hy.cell 1 (.int .i64 r.t) (fun _ _ => rfl)⟩) (fun hH => ?_)
        clear hK K
        have H1 := Lib.hid hy
        clear hy
        try simp only [Act.put, List.setIfInBounds_toArray, List.set_cons_zero, List.set_cons_succ]
        refine wpAnyH_take (i := 22) (oi := ⟨some 34, _, _, _, _, _⟩) (v := ?v70) rfl (by kernel_rfl) (by kernel_rfl) (by kernel_rfl) (fun _ _ _ h => h) (Or.inl ⟨rfl, ?c70⟩) hH ?r70
        case c70 => (intro w' _; go_simp; (try with_reducible rfl))
        try simp only [Act.put, List.setIfInBounds_toArray, List.set_cons_zero, List.set_cons_succ]
        refine wpAnyH_take (i := 23) (oi := ⟨some 35, _, _, _, _, _⟩) (v := ?v71) rfl (by kernel_rfl) (by kernel_rfl) (by kernel_rfl) (fun _ _ _ h => h) (Or.inl ⟨rfl, ?c71⟩) hH ?r71
        case c71 => (intro w' _; go_simp; (try with_reducible rfl))
        try simp only [Act.put, List.setIfInBounds_toArray, List.set_cons_zero, List.set_cons_succ]
        refine wpAnyH_done (by kernel_rfl) ?_ _
        clear hH q0 y0
        go_wp2_with fail
        go_ret
        exact ⟨rfl, H1.out⟩
      · have hc : canB S r = true := by unfold canB; rw [decide_eq_true hd, hl, Bool.or_true]; rfl
        rw [show stepA b.C S r = actA b.C (calledS (lockedS S r) r) { r with mu := -1, cal := true } by unfold stepA; rw [hc, if_pos rfl], hc]
        clear hc
        cases hcal : r.cal
        · have HCAL : Hid (r.cal = false) := hcal
          have HCS : Hid (calledS (lockedS S r) r = say (lockedS S r) { r with mu := -1, cal := true } 1 k0 0 0) := by show _ = _; unfold calledS; rw [hcal]; rfl
          clear hcal
          have HMU : Hid ((r.mu == -1) = false) := by show _ = _; simpa using hm
          have HLK : Hid (∀ W, Y b S r W → Calls Tryz.prog 43 #[ptr b.mb, .int .i64 r.t, .int .i64 r.mu] W fun e w' => e = .returned (.bool true) ∧ Y b (lockedS S r) r w') := fun W h => hl ▸ h.lock (hr.mono (by omega)) hF hm
          clear hm hl H hr hF he hd
          go_enter Tryz.func14, Tryz.ntmps14
          go_wp2_with fail
          refine wp_region_held_drew (S := fun w' => w'.cell? ⟨b.g, 4, none⟩ = some (.int .i64 r.mu) ∧ w'.cell? ⟨b.g, 0, none⟩ = some (ptr b.B) ∧ w'.cell? ⟨b.B, 18, none⟩ = some (ptr b.mb) ∧ w'.cell? ⟨b.g, 1, none⟩ = some (.int .i64 r.t)) (by kernel_rfl) (⟨H0.out.drew.cell 4 (.int .i64 r.mu) (fun _ _ => rfl), H0.out.drew.cell 0 (ptr b.B) (fun _ _ => rfl), H0.out.drew.shared 18 (ptr b.mb) (fun _ => rfl), H0.out.drew.cell 1 (.int .i64 r.t) (fun _ _ => rfl)⟩) (fun hH => ?_)
          refine wpAnyH_take (i := 0) (oi := ⟨some 12, _, _, _, _, _⟩) (v := ?v72) rfl (by kernel_rfl) (by kernel_rfl) (by kernel_rfl) (fun _ _ _ h => h) (Or.inl ⟨rfl, ?c72⟩) hH ?r72
          case c72 => (intro w' _; go_simp; (try with_reducible rfl))
          try simp only [Act.put, List.setIfInBounds_toArray, List.set_cons_zero, List.set_cons_succ]
          refine wpAnyH_take (i := 1) (oi := ⟨some 13, _, _, _, _, _⟩) (v := ?v73) rfl (by kernel_rfl) (by kernel_rfl) (by kernel_rfl) (fun _ _ _ h => h) (Or.inl ⟨rfl, ?c73⟩) hH ?r73
          case c73 => (intro w' _; go_simp; (try with_reducible rfl))
          try simp only [Act.put, List.setIfInBounds_toArray, List.set_cons_zero, List.set_cons_succ]
          refine wpAnyH_take (i := 2) (oi := ⟨some 14, _, _, _, _, _⟩) (v := ?v74) rfl (by kernel_rfl) (by kernel_rfl) (by kernel_rfl) (fun _ _ _ h => h) (Or.inl ⟨rfl, ?c74⟩) hH ?r74
          case c74 => (intro w' _; go_simp; (try with_reducible rfl))
          try simp only [Act.put, List.setIfInBounds_toArray, List.set_cons_zero, List.set_cons_succ]
          refine wpAnyH_take (i := 3) (oi := ⟨some 15, _, _, _, _, _⟩) (v := ?v75) rfl (by kernel_rfl) (by kernel_rfl) (by kernel_rfl) (fun _ _ _ h => h) (Or.inl ⟨rfl, ?c75⟩) hH ?r75
          case c75 => (intro w' hS; (try dsimp only at hS); go_simp; (try with_reducible rfl))
          try simp only [Act.put, List.setIfInBounds_toArray, List.set_cons_zero, List.set_cons_succ]
          refine wpAnyH_take (i := 4) (oi := ⟨some 16, _, _, _, _, _⟩) (v := ?v76) rfl (by kernel_rfl) (by kernel_rfl) (by kernel_rfl) (fun _ _ _ h => h) (Or.inl ⟨rfl, ?c76⟩) hH ?r76
          case c76 => (intro w' hS; have hm1 := HMU.out; have hm2 : decide (r.mu = -1) = false := (by simpa using hm1); have hm3 : (r.mu != -1) = true := (by simpa using hm1); go_simp; (try with_reducible rfl))
          try simp only [Act.put, List.setIfInBounds_toArray, List.set_cons_zero, List.set_cons_succ]
          refine wpAnyH_take (i := 5) (oi := ⟨some 17, _, _, _, _, _⟩) (v := ?v77) rfl (by kernel_rfl) (by kernel_rfl) (by kernel_rfl) (fun _ _ _ h => h) (Or.inl ⟨rfl, ?c77⟩) hH ?r77
          case c77 => (intro w' _; go_simp; (try with_reducible rfl))
          try simp only [Act.put, List.setIfInBounds_toArray, List.set_cons_zero, List.set_cons_succ]
          refine wpAnyH_take (i := 6) (oi := ⟨some 18, _, _, _, _, _⟩) (v := ?v78) rfl (by kernel_rfl) (by kernel_rfl) (by kernel_rfl) (fun _ _ _ h => h) (Or.inl ⟨rfl, ?c78⟩) hH ?r78
          case c78 => (intro w' _; go_simp; (try with_reducible rfl))
          try simp only [Act.put, List.setIfInBounds_toArray, List.set_cons_zero, List.set_cons_succ]
          refine wpAnyH_take (i := 7) (oi := ⟨some 19, _, _, _, _, _⟩) (v := ?v79) rfl (by kernel_rfl) (by kernel_rfl) (by kernel_rfl) (fun _ _ _ h => h) (Or.inl ⟨rfl, ?c79⟩) hH ?r79
          case c79 => (intro w' _; go_simp; (try with_reducible rfl))
          try simp only [Act.put, List.setIfInBounds_toArray, List.set_cons_zero, List.set_cons_succ]
          refine wpAnyH_take (i := 8) (oi := ⟨some 20, _, _, _, _, _⟩) (v := ?v80) rfl (by kernel_rfl) (by kernel_rfl) (by kernel_rfl) (fun _ _ _ h => h) (Or.inl ⟨rfl, ?c80⟩) hH ?r80
          case c80 => (intro w' _; go_simp; (try with_reducible rfl))
          try simp only [Act.put, List.setIfInBounds_toArray, List.set_cons_zero, List.set_cons_succ]
          refine wpAnyH_take (i := 9) (oi := ⟨some 21, _, _, _, _, _⟩) (v := ?v81) rfl (by kernel_rfl) (by kernel_rfl) (by kernel_rfl) (fun _ _ _ h => h) (Or.inl ⟨rfl, ?c81⟩) hH ?r81
          case c81 => (intro w' hS; (try dsimp only at hS); go_simp; (try with_reducible rfl))
          try simp only [Act.put, List.setIfInBounds_toArray, List.set_cons_zero, List.set_cons_succ]
          refine wpAnyH_take (i := 10) (oi := ⟨some 22, _, _, _, _, _⟩) (v := ?v82) rfl (by kernel_rfl) (by kernel_rfl) (by kernel_rfl) (fun _ _ _ h => h) (Or.inl ⟨rfl, ?c82⟩) hH ?r82
          case c82 => (intro w' _; go_simp; (try with_reducible rfl))
          try simp only [Act.put, List.setIfInBounds_toArray, List.set_cons_zero, List.set_cons_succ]
          refine wpAnyH_take (i := 11) (oi := ⟨some 23, _, _, _, _, _⟩) (v := ?v83) rfl (by kernel_rfl) (by kernel_rfl) (by kernel_rfl) (fun _ _ _ h => h) (Or.inl ⟨rfl, ?c83⟩) hH ?r83
          case c83 => (intro w' _; go_simp; (try with_reducible rfl))
          try simp only [Act.put, List.setIfInBounds_toArray, List.set_cons_zero, List.set_cons_succ]
          refine wpAnyH_take (i := 12) (oi := ⟨some 24, _, _, _, _, _⟩) (v := ?v84) rfl (by kernel_rfl) (by kernel_rfl) (by kernel_rfl) (fun _ _ _ h => h) (Or.inl ⟨rfl, ?c84⟩) hH ?r84
          case c84 => (intro w' hS; (try dsimp only at hS); go_simp; (try with_reducible rfl))
          try simp only [Act.put, List.setIfInBounds_toArray, List.set_cons_zero, List.set_cons_succ]
          refine wpAnyH_take (i := 13) (oi := ⟨some 25, _, _, _, _, _⟩) (v := ?v85) rfl (by kernel_rfl) (by kernel_rfl) (by kernel_rfl) (fun _ _ _ h => h) (Or.inl ⟨rfl, ?c85⟩) hH ?r85
          case c85 => (intro w' _; go_simp; (try with_reducible rfl))
          try simp only [Act.put, List.setIfInBounds_toArray, List.set_cons_zero, List.set_cons_succ]
          refine wpAnyH_take (i := 14) (oi := ⟨some 26, _, _, _, _, _⟩) (v := ?v86) rfl (by kernel_rfl) (by kernel_rfl) (by kernel_rfl) (fun _ _ _ h => h) (Or.inl ⟨rfl, ?c86⟩) hH ?r86
          case c86 => (intro w' _; go_simp; (try with_reducible rfl))
          try simp only [Act.put, List.setIfInBounds_toArray, List.set_cons_zero, List.set_cons_succ]
          refine wpAnyH_take (i := 15) (oi := ⟨some 27, _, _, _, _, _⟩) (v := ?v87) rfl (by kernel_rfl) (by kernel_rfl) (by kernel_rfl) (fun _ _ _ h => h) (Or.inl ⟨rfl, ?c87⟩) hH ?r87
          case c87 => (intro w' _; go_simp; (try with_reducible rfl))
          try simp only [Act.put, List.setIfInBounds_toArray, List.set_cons_zero, List.set_cons_succ]
          refine wpAnyH_take (i := 16) (oi := ⟨some 28, _, _, _, _, _⟩) (v := ?v88) rfl (by kernel_rfl) (by kernel_rfl) (by kernel_rfl) (fun _ _ _ h => h) (Or.inl ⟨rfl, ?c88⟩) hH ?r88
          case c88 => (intro w' hS; (try dsimp only at hS); go_simp; (try with_reducible rfl))
          try simp only [Act.put, List.setIfInBounds_toArray, List.set_cons_zero, List.set_cons_succ]
          refine wpAnyH_take (i := 17) (oi := ⟨some 29, _, _, _, _, _⟩) (v := ?v89) rfl (by kernel_rfl) (by kernel_rfl) (by kernel_rfl) (fun _ _ _ h => h) (Or.inl ⟨rfl, ?c89⟩) hH ?r89
          case c89 => (intro w' _; go_simp; (try with_reducible rfl))
          try simp only [Act.put, List.setIfInBounds_toArray, List.set_cons_zero, List.set_cons_succ]
          refine wpAnyH_take (i := 18) (oi := ⟨some 30, _, _, _, _, _⟩) (v := ?v90) rfl (by kernel_rfl) (by kernel_rfl) (by kernel_rfl) (fun _ _ _ h => h) (Or.inl ⟨rfl, ?c90⟩) hH ?r90
          case c90 => (intro w' _; go_simp; (try with_reducible rfl))
          try simp only [Act.put, List.setIfInBounds_toArray, List.set_cons_zero, List.set_cons_succ]
          refine wpAnyH_take (i := 19) (oi := ⟨some 31, _, _, _, _, _⟩) (v := ?v91) rfl (by kernel_rfl) (by kernel_rfl) (by kernel_rfl) (fun _ _ _ h => h) (Or.inl ⟨rfl, ?c91⟩) hH ?r91
          case c91 => (intro w' _; go_simp; (try with_reducible rfl))
          try simp only [Act.put, List.setIfInBounds_toArray, List.set_cons_zero, List.set_cons_succ]
          refine wpAnyH_take (i := 20) (oi := ⟨some 32, _, _, _, _, _⟩) (v := ?v92) rfl (by kernel_rfl) (by kernel_rfl) (by kernel_rfl) (fun _ _ _ h => h) (Or.inl ⟨rfl, ?c92⟩) hH ?r92
          case c92 => (intro w' hS; (try dsimp only at hS); go_simp; (try with_reducible rfl))
          try simp only [Act.put, List.setIfInBounds_toArray, List.set_cons_zero, List.set_cons_succ]
          refine wpAnyH_ready (rs := [21]) (by kernel_rfl) (by simp) (AllReadyH.cons rfl (fun K hK => ?_) (AllReadyH.nil))
          go_simp
          go_at_call 43
          refine (HLK.out _ H0.out.drew).mono ?_
          rintro e w1 ⟨rfl, hy⟩
          refine hK.out _ _ (⟨hy.cell 4 (.int .i64 r.mu) (fun _ _ => rfl), hy.cell 0 (ptr b.B) (fun _ _ => rfl), hy.shared 18 (ptr b.mb) (fun _ => rfl), hy.cell 1 (.int .i64 r.t) (fun _ _ => rfl)⟩) (fun hH => ?_)
          clear hK K
          have H1 := Lib.hid hy
          clear hy
          try simp only [Act.put, List.setIfInBounds_toArray, List.set_cons_zero, List.set_cons_succ]
          refine wpAnyH_take (i := 22) (oi := ⟨some 34, _, _, _, _, _⟩) (v := ?v93) rfl (by kernel_rfl) (by kernel_rfl) (by kernel_rfl) (fun _ _ _ h => h) (Or.inl ⟨rfl, ?c93⟩) hH ?r93
          case c93 => (intro w' _; go_simp; (try with_reducible rfl))
          try simp only [Act.put, List.setIfInBounds_toArray, List.set_cons_zero, List.set_cons_succ]
          refine wpAnyH_take (i := 23) (oi := ⟨some 35, _, _, _, _, _⟩) (v := ?v94) rfl (by kernel_rfl) (by kernel_rfl) (by kernel_rfl) (fun _ _ _ h => h) (Or.inl ⟨rfl, ?c94⟩) hH ?r94
          case c94 => (intro w' _; go_simp; (try with_reducible rfl))
          try simp only [Act.put, List.setIfInBounds_toArray, List.set_cons_zero, List.set_cons_succ]
          refine wpAnyH_done (by kernel_rfl) ?_ _
          clear hH q0 y0
          have HS := Lib.hid (H1.out.set (r' := { r with mu := -1 }) 4 (.int .i64 (-1)) (fun _ _ => rfl) rfl rfl)
          have f0 := H1.out.frozen 4
          have c0 := H1.out.cell 4 (.int .i64 r.mu) (fun _ _ => rfl)
          have c1 : (w1.setCell ⟨b.g, 4, none⟩ (.int .i64 (-1))).cell? ⟨b.g, 5, none⟩ = some (.bool r.cal) := HS.out.cell 5 _ (fun _ _ => rfl)
          rw [HCAL.out] at c1
          clear H1
          have HS2 := Lib.hid (HS.out.set (r' := { r with mu := -1, cal := true }) 5 (.bool true) (fun _ _ => rfl) rfl rfl)
          have f1 := HS.out.frozen 5
          clear HS
          go_wp2_with fail
          go_at_call 44
          refine (record0 HS2.out (HRL.out.mono (by omega)) 1 0 0).mono ?_
          rintro e w2 ⟨rfl, hy⟩
          have H2 : Hid (Y b (calledS (lockedS S r) r) { r with mu := -1, cal := true } w2) := by rw [HCS.out]; exact hy
          clear hy f0 c0 c1 f1 HS2
          have c2 : w2.cell? ⟨b.g, 3, none⟩ = some (nextV r.at_) := H2.out.cell 3 _ (fun _ _ => rfl)
          rw [next_is HD.out, HFN.out] at c2
          have eg := HEN.out
          unfold Enters at eg
          go_wp2_with fail
          have HAC := Lib.hid (act_any H2.out (HRM.out.mono (by omega)) HFC.out HE.out HD.out)
          rw [show fid ({ r with mu := -1, cal := true } : Rn).at_ = fn from HFN.out] at HAC
          refine HAC.out.mono ?_
          rintro e w3 ⟨rfl, hy⟩
          have H3 := Lib.hid hy
          clear hy c2 HAC
          (try clear f0 c0 c1 HS)
          go_wp2_with fail
          go_ret
          exact ⟨rfl, H3.out⟩
        · have HCAL : Hid (r.cal = true) := hcal
          have HCS : Hid (lockedS S r = calledS (lockedS S r) r) := by show _ = _; unfold calledS; rw [hcal]; rfl
          have HCR : Hid (({ r with mu := -1 } : Rn) = { r with mu := -1, cal := true }) := by show _ = _; rw [← hcal]
          clear hcal
          have HMU : Hid ((r.mu == -1) = false) := by show _ = _; simpa using hm
          have HLK : Hid (∀ W, Y b S r W → Calls Tryz.prog 43 #[ptr b.mb, .int .i64 r.t, .int .i64 r.mu] W fun e w' => e = .returned (.bool true) ∧ Y b (lockedS S r) r w') := fun W h => hl ▸ h.lock (hr.mono (by omega)) hF hm
          clear hm hl H hr hF he hd
          go_enter Tryz.func14, Tryz.ntmps14
          go_wp2_with fail
          refine wp_region_held_drew (S := fun w' => w'.cell? ⟨b.g, 4, none⟩ = some (.int .i64 r.mu) ∧ w'.cell? ⟨b.g, 0, none⟩ = some (ptr b.B) ∧ w'.cell? ⟨b.B, 18, none⟩ = some (ptr b.mb) ∧ w'.cell? ⟨b.g, 1, none⟩ = some (.int .i64 r.t)) (by kernel_rfl) (⟨H0.out.drew.cell 4 (.int .i64 r.mu) (fun _ _ => rfl), H0.out.drew.cell 0 (ptr b.B) (fun _ _ => rfl), H0.out.drew.shared 18 (ptr b.mb) (fun _ => rfl), H0.out.drew.cell 1 (.int .i64 r.t) (fun _ _ => rfl)⟩) (fun hH => ?_)
          refine wpAnyH_take (i := 0) (oi := ⟨some 12, _, _, _, _, _⟩) (v := ?v95) rfl (by kernel_rfl) (by kernel_rfl) (by kernel_rfl) (fun _ _ _ h => h) (Or.inl ⟨rfl, ?c95⟩) hH ?r95
          case c95 => (intro w' _; go_simp; (try with_reducible rfl))
          try simp only [Act.put, List.setIfInBounds_toArray, List.set_cons_zero, List.set_cons_succ]
          refine wpAnyH_take (i := 1) (oi := ⟨some 13, _, _, _, _, _⟩) (v := ?v96) rfl (by kernel_rfl) (by kernel_rfl) (by kernel_rfl) (fun _ _ _ h => h) (Or.inl ⟨rfl, ?c96⟩) hH ?r96
          case c96 => (intro w' _; go_simp; (try with_reducible rfl))
          try simp only [Act.put, List.setIfInBounds_toArray, List.set_cons_zero, List.set_cons_succ]
          refine wpAnyH_take (i := 2) (oi := ⟨some 14, _, _, _, _, _⟩) (v := ?v97) rfl (by kernel_rfl) (by kernel_rfl) (by kernel_rfl) (fun _ _ _ h => h) (Or.inl ⟨rfl, ?c97⟩) hH ?r97
          case c97 => (intro w' _; go_simp; (try with_reducible rfl))
          try simp only [Act.put, List.setIfInBounds_toArray, List.set_cons_zero, List.set_cons_succ]
          refine wpAnyH_take (i := 3) (oi := ⟨some 15, _, _, _, _, _⟩) (v := ?v98) rfl (by kernel_rfl) (by kernel_rfl) (by kernel_rfl) (fun _ _ _ h => h) (Or.inl ⟨rfl, ?c98⟩) hH ?r98
          case c98 => (intro w' hS; (try dsimp only at hS); go_simp; (try with_reducible rfl))
          try simp only [Act.put, List.setIfInBounds_toArray, List.set_cons_zero, List.set_cons_succ]
          refine wpAnyH_take (i := 4) (oi := ⟨some 16, _, _, _, _, _⟩) (v := ?v99) rfl (by kernel_rfl) (by kernel_rfl) (by kernel_rfl) (fun _ _ _ h => h) (Or.inl ⟨rfl, ?c99⟩) hH ?r99
          case c99 => (intro w' hS; have hm1 := HMU.out; have hm2 : decide (r.mu = -1) = false := (by simpa using hm1); have hm3 : (r.mu != -1) = true := (by simpa using hm1); go_simp; (try with_reducible rfl))
          try simp only [Act.put, List.setIfInBounds_toArray, List.set_cons_zero, List.set_cons_succ]
          refine wpAnyH_take (i := 5) (oi := ⟨some 17, _, _, _, _, _⟩) (v := ?v100) rfl (by kernel_rfl) (by kernel_rfl) (by kernel_rfl) (fun _ _ _ h => h) (Or.inl ⟨rfl, ?c100⟩) hH ?r100
          case c100 => (intro w' _; go_simp; (try with_reducible rfl))
          try simp only [Act.put, List.setIfInBounds_toArray, List.set_cons_zero, List.set_cons_succ]
          refine wpAnyH_take (i := 6) (oi := ⟨some 18, _, _, _, _, _⟩) (v := ?v101) rfl (by kernel_rfl) (by kernel_rfl) (by kernel_rfl) (fun _ _ _ h => h) (Or.inl ⟨rfl, ?c101⟩) hH ?r101
          case c101 => (intro w' _; go_simp; (try with_reducible rfl))
          try simp only [Act.put, List.setIfInBounds_toArray, List.set_cons_zero, List.set_cons_succ]
          refine wpAnyH_take (i := 7) (oi := ⟨some 19, _, _, _, _, _⟩) (v := ?v102) rfl (by kernel_rfl) (by kernel_rfl) (by kernel_rfl) (fun _ _ _ h => h) (Or.inl ⟨rfl, ?c102⟩) hH ?r102
          case c102 => (intro w' _; go_simp; (try with_reducible rfl))
          try simp only [Act.put, List.setIfInBounds_toArray, List.set_cons_zero, List.set_cons_succ]
          refine wpAnyH_take (i := 8) (oi := ⟨some 20, _, _, _, _, _⟩) (v := ?v103) rfl (by kernel_rfl) (by kernel_rfl) (by kernel_rfl) (fun _ _ _ h => h) (Or.inl ⟨rfl, ?c103⟩) hH ?r103
          case c103 => (intro w' _; go_simp; (try with_reducible rfl))
          try simp only [Act.put, List.setIfInBounds_toArray, List.set_cons_zero, List.set_cons_succ]
          refine wpAnyH_take (i := 9) (oi := ⟨some 21, _, _, _, _, _⟩) (v := ?v104) rfl (by kernel_rfl) (by kernel_rfl) (by kernel_rfl) (fun _ _ _ h => h) (Or.inl ⟨rfl, ?c104⟩) hH ?r104
          case c104 => (intro w' hS; (try dsimp only at hS); go_simp; (try with_reducible rfl))
          try simp only [Act.put, List.setIfInBounds_toArray, List.set_cons_zero, List.set_cons_succ]
          refine wpAnyH_take (i := 10) (oi := ⟨some 22, _, _, _, _, _⟩) (v := ?v105) rfl (by kernel_rfl) (by kernel_rfl) (by kernel_rfl) (fun _ _ _ h => h) (Or.inl ⟨rfl, ?c105⟩) hH ?r105
          case c105 => (intro w' _; go_simp; (try with_reducible rfl))
          try simp only [Act.put, List.setIfInBounds_toArray, List.set_cons_zero, List.set_cons_succ]
          refine wpAnyH_take (i := 11) (oi := ⟨some 23, _, _, _, _, _⟩) (v := ?v106) rfl (by kernel_rfl) (by kernel_rfl) (by kernel_rfl) (fun _ _ _ h => h) (Or.inl ⟨rfl, ?c106⟩) hH ?r106
          case c106 => (intro w' _; go_simp; (try with_reducible rfl))
          try simp only [Act.put, List.setIfInBounds_toArray, List.set_cons_zero, List.set_cons_succ]
          refine wpAnyH_take (i := 12) (oi := ⟨some 24, _, _, _, _, _⟩) (v := ?v107) rfl (by kernel_rfl) (by kernel_rfl) (by kernel_rfl) (fun _ _ _ h => h) (Or.inl ⟨rfl, ?c107⟩) hH ?r107
          case c107 => (intro w' hS; (try dsimp only at hS); go_simp; (try with_reducible rfl))
          try simp only [Act.put, List.setIfInBounds_toArray, List.set_cons_zero, List.set_cons_succ]
          refine wpAnyH_take (i := 13) (oi := ⟨some 25, _, _, _, _, _⟩) (v := ?v108) rfl (by kernel_rfl) (by kernel_rfl) (by kernel_rfl) (fun _ _ _ h => h) (Or.inl ⟨rfl, ?c108⟩) hH ?r108
          case c108 => (intro w' _; go_simp; (try with_reducible rfl))
          try simp only [Act.put, List.setIfInBounds_toArray, List.set_cons_zero, List.set_cons_succ]
          refine wpAnyH_take (i := 14) (oi := ⟨some 26, _, _, _, _, _⟩) (v := ?v109) rfl (by kernel_rfl) (by kernel_rfl) (by kernel_rfl) (fun _ _ _ h => h) (Or.inl ⟨rfl, ?c109⟩) hH ?r109
          case c109 => (intro w' _; go_simp; (try with_reducible rfl))
          try simp only [Act.put, List.setIfInBounds_toArray, List.set_cons_zero, List.set_cons_succ]
          refine wpAnyH_take (i := 15) (oi := ⟨some 27, _, _, _, _, _⟩) (v := ?v110) rfl (by kernel_rfl) (by kernel_rfl) (by kernel_rfl) (fun _ _ _ h => h) (Or.inl ⟨rfl, ?c110⟩) hH ?r110
          case c110 => (intro w' _; go_simp; (try with_reducible rfl))
          try simp only [Act.put, List.setIfInBounds_toArray, List.set_cons_zero, List.set_cons_succ]
          refine wpAnyH_take (i := 16) (oi := ⟨some 28, _, _, _, _, _⟩) (v := ?v111) rfl (by kernel_rfl) (by kernel_rfl) (by kernel_rfl) (fun _ _ _ h => h) (Or.inl ⟨rfl, ?c111⟩) hH ?r111
          case c111 => (intro w' hS; (try dsimp only at hS); go_simp; (try with_reducible rfl))
          try simp only [Act.put, List.setIfInBounds_toArray, List.set_cons_zero, List.set_cons_succ]
          refine wpAnyH_take (i := 17) (oi := ⟨some 29, _, _, _, _, _⟩) (v := ?v112) rfl (by kernel_rfl) (by kernel_rfl) (by kernel_rfl) (fun _ _ _ h => h) (Or.inl ⟨rfl, ?c112⟩) hH ?r112
          case c112 => (intro w' _; go_simp; (try with_reducible rfl))
          try simp only [Act.put, List.setIfInBounds_toArray, List.set_cons_zero, List.set_cons_succ]
          refine wpAnyH_take (i := 18) (oi := ⟨some 30, _, _, _, _, _⟩) (v := ?v113) rfl (by kernel_rfl) (by kernel_rfl) (by kernel_rfl) (fun _ _ _ h => h) (Or.inl ⟨rfl, ?c113⟩) hH ?r113
          case c113 => (intro w' _; go_simp; (try with_reducible rfl))
          try simp only [Act.put, List.setIfInBounds_toArray, List.set_cons_zero, List.set_cons_succ]
          refine wpAnyH_take (i := 19) (oi := ⟨some 31, _, _, _, _, _⟩) (v := ?v114) rfl (by kernel_rfl) (by kernel_rfl) (by kernel_rfl) (fun _ _ _ h => h) (Or.inl ⟨rfl, ?c114⟩) hH ?r114
          case c114 => (intro w' _; go_simp; (try with_reducible rfl))
          try simp only [Act.put, List.setIfInBounds_toArray, List.set_cons_zero, List.set_cons_succ]
          refine wpAnyH_take (i := 20) (oi := ⟨some 32, _, _, _, _, _⟩) (v := ?v115) rfl (by kernel_rfl) (by kernel_rfl) (by kernel_rfl) (fun _ _ _ h => h) (Or.inl ⟨rfl, ?c115⟩) hH ?r115
          case c115 => (intro w' hS; (try dsimp only at hS); go_simp; (try with_reducible rfl))
          try simp only [Act.put, List.setIfInBounds_toArray, List.set_cons_zero, List.set_cons_succ]
          refine wpAnyH_ready (rs := [21]) (by kernel_rfl) (by simp) (AllReadyH.cons rfl (fun K hK => ?_) (AllReadyH.nil))
          go_simp
          go_at_call 43
          refine (HLK.out _ H0.out.drew).mono ?_
          rintro e w1 ⟨rfl, hy⟩
          refine hK.out _ _ (⟨hy.cell 4 (.int .i64 r.mu) (fun _ _ => rfl), hy.cell 0 (ptr b.B) (fun _ _ => rfl), hy.shared 18 (ptr b.mb) (fun _ => rfl), hy.cell 1 (.int .i64 r.t) (fun _ _ => rfl)⟩) (fun hH => ?_)
          clear hK K
          have H1 := Lib.hid hy
          clear hy
          try simp only [Act.put, List.setIfInBounds_toArray, List.set_cons_zero, List.set_cons_succ]
          refine wpAnyH_take (i := 22) (oi := ⟨some 34, _, _, _, _, _⟩) (v := ?v116) rfl (by kernel_rfl) (by kernel_rfl) (by kernel_rfl) (fun _ _ _ h => h) (Or.inl ⟨rfl, ?c116⟩) hH ?r116
          case c116 => (intro w' _; go_simp; (try with_reducible rfl))
          try simp only [Act.put, List.setIfInBounds_toArray, List.set_cons_zero, List.set_cons_succ]
          refine wpAnyH_take (i := 23) (oi := ⟨some 35, _, _, _, _, _⟩) (v := ?v117) rfl (by kernel_rfl) (by kernel_rfl) (by kernel_rfl) (fun _ _ _ h => h) (Or.inl ⟨rfl, ?c117⟩) hH ?r117
          case c117 => (intro w' _; go_simp; (try with_reducible rfl))
          try simp only [Act.put, List.setIfInBounds_toArray, List.set_cons_zero, List.set_cons_succ]
          refine wpAnyH_done (by kernel_rfl) ?_ _
          clear hH q0 y0
          have HS := Lib.hid (H1.out.set (r' := { r with mu := -1 }) 4 (.int .i64 (-1)) (fun _ _ => rfl) rfl rfl)
          have f0 := H1.out.frozen 4
          have c0 := H1.out.cell 4 (.int .i64 r.mu) (fun _ _ => rfl)
          have c1 : (w1.setCell ⟨b.g, 4, none⟩ (.int .i64 (-1))).cell? ⟨b.g, 5, none⟩ = some (.bool r.cal) := HS.out.cell 5 _ (fun _ _ => rfl)
          rw [HCAL.out] at c1
          clear H1
          have c2 : (w1.setCell ⟨b.g, 4, none⟩ (.int .i64 (-1))).cell? ⟨b.g, 3, none⟩ = some (nextV r.at_) := HS.out.cell 3 _ (fun _ _ => rfl)
          rw [next_is HD.out, HFN.out] at c2
          have eg := HEN.out
          unfold Enters at eg
          go_wp2_with fail
          have HAC := Lib.hid (act_any (r := { r with mu := -1, cal := true }) (HCS.out ▸ HCR.out ▸ HS.out) (HRM.out.mono (by omega)) HFC.out HE.out HD.out)
          rw [show fid ({ r with mu := -1, cal := true } : Rn).at_ = fn from HFN.out] at HAC
          refine HAC.out.mono ?_
          rintro e w3 ⟨rfl, hy⟩
          have H3 := Lib.hid hy
          clear hy c2 HAC
          (try clear f0 c0 c1 HS)
          go_wp2_with fail
          go_ret
          exact ⟨rfl, H3.out⟩
end
end Pg
end Go.Proofs.YtcockldefmmhbaaGreatDoor
