/- Several texts of this proof in one file, each in its own namespace. -/
import Derived.Test.YtcockldefmmhbaaGreatDoorJ64
/- Layer 21: the acts, a fourth part. (Written by wip/tools/mkPrgK.py.) -/
set_option linter.unusedVariables false
set_option linter.unusedSimpArgs false
set_option maxRecDepth 100000
namespace Go.Proofs.YtcockldefmmhbaaGreatDoor
open Go.ChangeShapes Go.WideShapes Go.ChangeAt Go.RowKit Go.Mtl Go.Lib
namespace Pg
open MemM (Ms lookV loadS swapB swapS holdV lockB lockS unlockS touchS moreS)
open RulM (R)
open AutM (Ke)
open Me (ptr)
open Tb (TAt TM Fw)
section
variable {b : Bs} {W : World} {S : Sh} {r : Rn}
theorem kcs_cons (k : Ke) (ks : List Ke) : kcs (k :: ks) = [.int .u32 (k.a : Int), .int .u32 (k.b : Int), .int .u16 (k.p : Int), .int .u16 (k.q : Int), .int .u8 (k.r : Int)] ++ kcs ks := rfl
theorem kcs_tail (k : Ke) (ks : List Ke) (j : Nat) : (kcs (k :: ks))[5 + j]? = (kcs ks)[j]? := by
  rw [kcs_cons, List.getElem?_append_right (by simp)]
  congr 1
  simp
theorem YR.key {Om Ot K : Nat → Prop} {pv lv kv : Value} (H : YR b Om Ot K pv lv kv S r W) (k : Ke) : YR b Om Ot K pv lv kv S { r with k := k } (((((W.setCell ⟨b.g, 25, none⟩ (.int .u32 (k.a : Int))).setCell ⟨b.g, 26, none⟩ (.int .u32 (k.b : Int))).setCell ⟨b.g, 27, none⟩ (.int .u16 (k.p : Int))).setCell ⟨b.g, 28, none⟩ (.int .u16 (k.q : Int))).setCell ⟨b.g, 29, none⟩ (.int .u8 (k.r : Int))) := by
  have h0 := H.set (r' := { r with k := { r.k with a := k.a } }) 25 (.int .u32 (k.a : Int)) rfl H.lis H.kes
  have h1 := h0.set (r' := { r with k := { r.k with a := k.a, b := k.b } }) 26 (.int .u32 (k.b : Int)) rfl h0.lis h0.kes
  have h2 := h1.set (r' := { r with k := { r.k with a := k.a, b := k.b, p := k.p } }) 27 (.int .u16 (k.p : Int)) rfl h1.lis h1.kes
  have h3 := h2.set (r' := { r with k := { r.k with a := k.a, b := k.b, p := k.p, q := k.q } }) 28 (.int .u16 (k.q : Int)) rfl h2.lis h2.kes
  have h4 := h3.set (r' := { r with k := { r.k with a := k.a, b := k.b, p := k.p, q := k.q, r := k.r } }) 29 (.int .u8 (k.r : Int)) rfl h3.lis h3.kes
  exact h4
theorem only_key (W : World) (g : Nat) (k : Ke) : Only (fun j => j = g) W (((((W.setCell ⟨g, 25, none⟩ (.int .u32 (k.a : Int))).setCell ⟨g, 26, none⟩ (.int .u32 (k.b : Int))).setCell ⟨g, 27, none⟩ (.int .u16 (k.p : Int))).setCell ⟨g, 28, none⟩ (.int .u16 (k.q : Int))).setCell ⟨g, 29, none⟩ (.int .u8 (k.r : Int))) := ((((((Only.refl (fun j => j = g) W).setCell (p := ⟨g, 25, none⟩) (.inl rfl) (.int .u32 (k.a : Int))).setCell (p := ⟨g, 26, none⟩) (.inl rfl) (.int .u32 (k.b : Int))).setCell (p := ⟨g, 27, none⟩) (.inl rfl) (.int .u16 (k.p : Int))).setCell (p := ⟨g, 28, none⟩) (.inl rfl) (.int .u16 (k.q : Int))).setCell (p := ⟨g, 29, none⟩) (.inl rfl) (.int .u8 (k.r : Int)))
set_option maxHeartbeats 2000000 in
theorem proceed_act (H : Y b S r W) : Calls Tryz.prog 117 #[ptr b.g] W (Yd b U S (proceedR r)) := by
  have H0 := Lib.hid H
  obtain ⟨Om, Ot, Kf, pv, lv, kv, HYR⟩ := H
  obtain ⟨⟨A, c, hkv, hcb, hcell⟩, hok⟩ := HYR.kes
  subst hkv
  cases hks : r.ks with
  | nil =>
    rw [show proceedR r = goto r .finish by unfold proceedR; rw [hks]]
    have q0 := HYR.run.cell 24 _ rfl
    rw [show r.ks.length = 0 by rw [hks]; rfl] at q0
    clear HYR hcell hok hks hcb
    go_enter Tryz.func117, Tryz.ntmps117
    go_wp2_with fail
    go_at_call 37
    refine (then_any H0.out .finish _ rfl).mono ?_
    rintro e w1 ⟨rfl, hy⟩
    have H1 := Lib.hid hy
    clear hy q0
    go_wp2_with fail
    go_end0
    exact ⟨rfl, H1.out⟩
  | cons k ks =>
    have hle : r.ks.length = ks.length + 1 := by rw [hks]; rfl
    rw [hle] at HYR hcb
    rw [hks] at hcell hok
    obtain ⟨gk, off, rfl, hK, hlt, hc⟩ := hcell (by simp)
    rw [show proceedR r = { r with k := k, ks := ks, at_ := .visit } by unfold proceedR; rw [hks]]
    have b0 : W.cell? ⟨gk, off, none⟩ = some (.int .u32 (k.a : Int)) := hc 0 _ rfl
    have b1 : W.cell? ⟨gk, off + 1, none⟩ = some (.int .u32 (k.b : Int)) := hc 1 _ rfl
    have b2 : W.cell? ⟨gk, off + 2, none⟩ = some (.int .u16 (k.p : Int)) := hc 2 _ rfl
    have b3 : W.cell? ⟨gk, off + 3, none⟩ = some (.int .u16 (k.q : Int)) := hc 3 _ rfl
    have b4 : W.cell? ⟨gk, off + 4, none⟩ = some (.int .u8 (k.r : Int)) := hc 4 _ rfl
    have q0 := HYR.run.cell 24 _ rfl
    obtain ⟨A2, hA2⟩ : ∃ a, (if c = 1 then (⟨gk, off, none⟩ : Addr) else ⟨gk, off + 5, none⟩) = a := ⟨_, rfl⟩
    have HA2 : Hid ((if c = 1 then (some ⟨gk, off, none⟩ : Option Addr) else some ⟨gk, off + 5, none⟩) = some A2) := by show _ = _; rw [← hA2]; split <;> rfl
    have HTL : Hid (∀ w', Only (fun j => j = b.g) W w' → Kv w' Kf (.slice (some A2) ks.length (c - 1)) ks) := fun w' ho => by
      refine ⟨⟨some A2, c - 1, rfl, by omega, fun hn => ?_⟩, fun x hx => hok x (List.mem_cons_of_mem _ hx)⟩
      have hc1 : c ≠ 1 := by omega
      rw [if_neg hc1] at hA2
      subst hA2
      have hne : gk ≠ b.g := (HYR.dk gk hK).2.1
      refine ⟨gk, off + 5, rfl, hK, Nat.lt_of_lt_of_le hlt ho.size, fun j u hu => ?_⟩
      rw [← kcs_tail k] at hu
      rw [Nat.add_assoc]
      exact (ho.cell (p := ⟨gk, off + (5 + j), none⟩) hlt hne).trans (hc _ u hu)
    have HY2 := Lib.hid HYR
    have h1 : (1 : Int) ≤ (c : Int) := by omega
    have hb1 : ks.length + 1 ≤ c := hcb.1
    have hb2 : c ≤ 9223372036854775807 := hcb.2
    have HLT := Lib.hid hlt
    have HNE : Hid (gk ≠ b.g) := (HYR.dk gk hK).2.1
    clear HYR hcell hok hks hc hlt hK hA2 hcb hle H0
    go_enter Tryz.func117, Tryz.ntmps117
    go_wp2_with fail
    refine region_e (S := fun w' => w'.cell? ⟨b.g, 24, none⟩ = some (.slice (some ⟨gk, off, none⟩) (ks.length + 1) c) ∧ w'.cell? ⟨gk, off, none⟩ = some (.int .u32 (k.a : Int)) ∧ w'.cell? ⟨gk, off + 1, none⟩ = some (.int .u32 (k.b : Int)) ∧ w'.cell? ⟨gk, off + 2, none⟩ = some (.int .u16 (k.p : Int)) ∧ w'.cell? ⟨gk, off + 3, none⟩ = some (.int .u16 (k.q : Int)) ∧ w'.cell? ⟨gk, off + 4, none⟩ = some (.int .u8 (k.r : Int))) 18 (by kernel_rfl) (⟨q0, b0, b1, b2, b3, b4⟩) (fun hH => ?_)
    refine anyE_take (i := 0) (oi := ⟨some 10, _, _, _, _, _⟩) (v := ?v1) rfl (by kernel_rfl) (by kernel_rfl) (by kernel_rfl) (by kernel_rfl) (fun _ _ _ h => h) (Or.inl ⟨rfl, ?c1⟩) hH ?r1
    case c1 => (intro w' _; go_simp; (try with_reducible rfl))
    try simp only [Act.put, List.setIfInBounds_toArray, List.set_cons_zero, List.set_cons_succ]
    refine anyE_take (i := 1) (oi := ⟨some 11, _, _, _, _, _⟩) (v := ?v2) rfl (by kernel_rfl) (by kernel_rfl) (by kernel_rfl) (by kernel_rfl) (fun _ _ _ h => h) (Or.inl ⟨rfl, ?c2⟩) hH ?r2
    case c2 => (intro w' _; go_simp; (try with_reducible rfl))
    try simp only [Act.put, List.setIfInBounds_toArray, List.set_cons_zero, List.set_cons_succ]
    refine anyE_take (i := 2) (oi := ⟨some 12, _, _, _, _, _⟩) (v := ?v3) rfl (by kernel_rfl) (by kernel_rfl) (by kernel_rfl) (by kernel_rfl) (fun _ _ _ h => h) (Or.inl ⟨rfl, ?c3⟩) hH ?r3
    case c3 => (intro w' _; go_simp; (try with_reducible rfl))
    try simp only [Act.put, List.setIfInBounds_toArray, List.set_cons_zero, List.set_cons_succ]
    refine anyE_take (i := 3) (oi := ⟨some 13, _, _, _, _, _⟩) (v := ?v4) rfl (by kernel_rfl) (by kernel_rfl) (by kernel_rfl) (by kernel_rfl) (fun _ _ _ h => h) (Or.inl ⟨rfl, ?c4⟩) hH ?r4
    case c4 => (intro w' _; go_simp; (try with_reducible rfl))
    try simp only [Act.put, List.setIfInBounds_toArray, List.set_cons_zero, List.set_cons_succ]
    refine anyE_take (i := 4) (oi := ⟨some 14, _, _, _, _, _⟩) (v := ?v5) rfl (by kernel_rfl) (by kernel_rfl) (by kernel_rfl) (by kernel_rfl) (fun _ _ _ h => h) (Or.inl ⟨rfl, ?c5⟩) hH ?r5
    case c5 => (intro w' _; go_simp; (try with_reducible rfl))
    try simp only [Act.put, List.setIfInBounds_toArray, List.set_cons_zero, List.set_cons_succ]
    refine anyE_take (i := 5) (oi := ⟨some 15, _, _, _, _, _⟩) (v := ?v6) rfl (by kernel_rfl) (by kernel_rfl) (by kernel_rfl) (by kernel_rfl) (fun _ _ _ h => h) (Or.inl ⟨rfl, ?c6⟩) hH ?r6
    case c6 => (intro w' hS; (try dsimp only at hS); go_simp; (try with_reducible rfl))
    try simp only [Act.put, List.setIfInBounds_toArray, List.set_cons_zero, List.set_cons_succ]
    refine anyE_take (i := 6) (oi := ⟨some 16, _, _, _, _, _⟩) (v := ?v7) rfl (by kernel_rfl) (by kernel_rfl) (by kernel_rfl) (by kernel_rfl) (fun _ _ _ h => h) (Or.inl ⟨rfl, ?c7⟩) hH ?r7
    case c7 => (intro w' hS; go_simp; (try with_reducible rfl))
    try simp only [Act.put, List.setIfInBounds_toArray, List.set_cons_zero, List.set_cons_succ]
    refine anyE_take (i := 7) (oi := ⟨some 17, _, _, _, _, _⟩) (v := ?v8) rfl (by kernel_rfl) (by kernel_rfl) (by kernel_rfl) (by kernel_rfl) (fun _ _ _ h => h) (Or.inl ⟨rfl, ?c8⟩) hH ?r8
    case c8 => (intro w' hS; obtain ⟨x0, x1, x2, x3, x4, x5⟩ := hS; go_simp; (try with_reducible rfl))
    try simp only [Act.put, List.setIfInBounds_toArray, List.set_cons_zero, List.set_cons_succ]
    refine anyE_take (i := 8) (oi := ⟨some 18, _, _, _, _, _⟩) (v := ?v9) rfl (by kernel_rfl) (by kernel_rfl) (by kernel_rfl) (by kernel_rfl) (fun _ _ _ h => h) (Or.inl ⟨rfl, ?c9⟩) hH ?r9
    case c9 => (intro w' _; go_simp; (try with_reducible rfl))
    try simp only [Act.put, List.setIfInBounds_toArray, List.set_cons_zero, List.set_cons_succ]
    refine anyE_take (i := 9) (oi := ⟨some 19, _, _, _, _, _⟩) (v := ?v10) rfl (by kernel_rfl) (by kernel_rfl) (by kernel_rfl) (by kernel_rfl) (fun _ _ _ h => h) (Or.inl ⟨rfl, ?c10⟩) hH ?r10
    case c10 => (intro w' _; go_simp; (try with_reducible rfl))
    try simp only [Act.put, List.setIfInBounds_toArray, List.set_cons_zero, List.set_cons_succ]
    refine anyE_take (i := 10) (oi := ⟨some 20, _, _, _, _, _⟩) (v := ?v11) rfl (by kernel_rfl) (by kernel_rfl) (by kernel_rfl) (by kernel_rfl) (fun _ _ _ h => h) (Or.inl ⟨rfl, ?c11⟩) hH ?r11
    case c11 => (intro w' _; go_simp; (try with_reducible rfl))
    try simp only [Act.put, List.setIfInBounds_toArray, List.set_cons_zero, List.set_cons_succ]
    refine anyE_take (i := 11) (oi := ⟨some 21, _, _, _, _, _⟩) (v := ?v12) rfl (by kernel_rfl) (by kernel_rfl) (by kernel_rfl) (by kernel_rfl) (fun _ _ _ h => h) (Or.inl ⟨rfl, ?c12⟩) hH ?r12
    case c12 => (intro w' hS; (try dsimp only at hS); go_simp; (try with_reducible rfl))
    try simp only [Act.put, List.setIfInBounds_toArray, List.set_cons_zero, List.set_cons_succ]
    refine anyE_take (i := 12) (oi := ⟨some 22, _, _, _, _, _⟩) (v := ?v13) rfl (by kernel_rfl) (by kernel_rfl) (by kernel_rfl) (by kernel_rfl) (fun _ _ _ h => h) (Or.inl ⟨rfl, ?c13⟩) hH ?r13
    case c13 => (intro w' hS; have i1 : (1 : Int) ≤ (ks.length : Int) + 1 := (by omega); go_simp; (try rw [if_pos i1]); (try rw [HA2.out]); (try rfl))
    try simp only [Act.put, List.setIfInBounds_toArray, List.set_cons_zero, List.set_cons_succ]
    refine anyE_take (i := 13) (oi := ⟨some 23, _, _, _, _, _⟩) (v := ?v14) rfl (by kernel_rfl) (by kernel_rfl) (by kernel_rfl) (by kernel_rfl) (fun _ _ _ h => h) (Or.inl ⟨rfl, ?c14⟩) hH ?r14
    case c14 => (intro w' _; go_simp; (try with_reducible rfl))
    try simp only [Act.put, List.setIfInBounds_toArray, List.set_cons_zero, List.set_cons_succ]
    refine anyE_take (i := 14) (oi := ⟨some 24, _, _, _, _, _⟩) (v := ?v15) rfl (by kernel_rfl) (by kernel_rfl) (by kernel_rfl) (by kernel_rfl) (fun _ _ _ h => h) (Or.inl ⟨rfl, ?c15⟩) hH ?r15
    case c15 => (intro w' _; go_simp; (try with_reducible rfl))
    try simp only [Act.put, List.setIfInBounds_toArray, List.set_cons_zero, List.set_cons_succ]
    refine anyE_ready (rs := [15]) (by kernel_rfl) (by simp) (AllE.cons rfl (fun K hK => ?_) (AllE.nil))
    obtain ⟨W1, hW1⟩ : ∃ VV, W.drew = VV := ⟨_, rfl⟩
    have H1 : Hid (YR b Om Ot Kf pv lv (.slice (some ⟨gk, off, none⟩) (ks.length + 1) c) S r W1) := hW1 ▸ Lib.hid (HY2.out.next (Below.refl _ W).drew)
    have HO1 : Hid (Only (fun j => j = b.g) W W1) := hW1 ▸ Lib.hid ((Only.refl (fun j => j = b.g) W).next (Below.refl _ W).drew)
    rw [hW1] at hH ⊢
    clear hW1 HY2
    have f0 := H1.out.run.frozen 25
    have c0 := H1.out.run.cell 25 _ rfl
    have f1 := H1.out.run.frozen 26
    have c1 := H1.out.run.cell 26 _ rfl
    have f2 := H1.out.run.frozen 27
    have c2 := H1.out.run.cell 27 _ rfl
    have f3 := H1.out.run.frozen 28
    have c3 := H1.out.run.cell 28 _ rfl
    have f4 := H1.out.run.frozen 29
    have c4 := H1.out.run.cell 29 _ rfl
    go_simp
    clear f0 c0 f1 c1 f2 c2 f3 c3 f4 c4
    have H2 := Lib.hid (H1.out.key k)
    have HO2 := Lib.hid (only_key W1 b.g k)
    refine hK.out _ _ (⟨H2.out.run.cell 24 _ rfl, (HO2.out.cell (p := ⟨gk, off, none⟩) (Nat.lt_of_lt_of_le HLT.out HO1.out.size) HNE.out).trans hH.2.1, (HO2.out.cell (p := ⟨gk, off + 1, none⟩) (Nat.lt_of_lt_of_le HLT.out HO1.out.size) HNE.out).trans hH.2.2.1, (HO2.out.cell (p := ⟨gk, off + 2, none⟩) (Nat.lt_of_lt_of_le HLT.out HO1.out.size) HNE.out).trans hH.2.2.2.1, (HO2.out.cell (p := ⟨gk, off + 3, none⟩) (Nat.lt_of_lt_of_le HLT.out HO1.out.size) HNE.out).trans hH.2.2.2.2.1, (HO2.out.cell (p := ⟨gk, off + 4, none⟩) (Nat.lt_of_lt_of_le HLT.out HO1.out.size) HNE.out).trans hH.2.2.2.2.2⟩) (fun hH => ?_)
    clear hK K
    have HOT := Lib.hid (HO1.out.trans HO2.out fun j h => .inl h)
    clear H1 HO1 HO2
    generalize (((((W1.setCell ⟨b.g, 25, none⟩ (.int .u32 (k.a : Int))).setCell ⟨b.g, 26, none⟩ (.int .u32 (k.b : Int))).setCell ⟨b.g, 27, none⟩ (.int .u16 (k.p : Int))).setCell ⟨b.g, 28, none⟩ (.int .u16 (k.q : Int))).setCell ⟨b.g, 29, none⟩ (.int .u8 (k.r : Int))) = W2 at *
    try simp only [Act.put, List.setIfInBounds_toArray, List.set_cons_zero, List.set_cons_succ]
    refine anyF_take [17] (i := 16) (oi := ⟨some 25, _, _, _, _, _⟩) (v := ?v16) rfl (by kernel_rfl) (by kernel_rfl) (by kernel_rfl) (by kernel_rfl) (fun _ _ _ h => h) (Or.inl ⟨rfl, ?c16⟩) hH ?r16
    case c16 => (intro w' _; go_simp; (try with_reducible rfl))
    try simp only [Act.put, List.setIfInBounds_toArray, List.set_cons_zero, List.set_cons_succ]
    refine anyE_take (i := 17) (oi := ⟨some 26, _, _, _, _, _⟩) (v := ?v17) rfl (by kernel_rfl) (by kernel_rfl) (by kernel_rfl) (by kernel_rfl) (fun _ _ _ h => h) (Or.inl ⟨rfl, ?c17⟩) hH ?r17
    case c17 => (intro w' _; go_simp; (try with_reducible rfl))
    try simp only [Act.put, List.setIfInBounds_toArray, List.set_cons_zero, List.set_cons_succ]
    refine anyE_ready (rs := [18]) (by kernel_rfl) (by simp) (AllE.end_ rfl (fun K hK => ?_))
    have f0 := H2.out.run.frozen 24
    have c0 := H2.out.run.cell 24 _ rfl
    go_simp
    clear c0 f0
    refine hK.out _ _ ?_
    clear hK K
    have H3 := Lib.hid (H2.out.set (r' := { r with k := k, ks := ks }) 24 (.slice (some A2) ks.length (c - 1)) rfl H2.out.lis (HTL.out _ HOT.out))
    clear H2 HOT HTL
    try simp only [Act.put, List.setIfInBounds_toArray, List.set_cons_zero, List.set_cons_succ]
    refine anyE_done (by kernel_rfl) ?_ _
    clear hH
    go_wp2_with fail
    go_at_call 37
    refine (then_any ⟨_, _, _, _, _, _, H3.out⟩ .visit _ rfl).mono ?_
    rintro e w4 ⟨rfl, hy⟩
    have H4 := Lib.hid hy
    clear hy H3
    go_wp2_with fail
    go_end0
    exact ⟨rfl, H4.out⟩
theorem inspect_act (H : Y b S r W) (hr : Rm 9 S) (hF : Fit b.C S r) (he : Env b.w0) : Calls Tryz.prog 116 #[ptr b.g] W (Yd b U ((inspectA S r).1) ((inspectA S r).2)) := by
  have HR := Lib.hid hr
  have HF := Lib.hid hF
  have HE := Lib.hid he
  have H0 := Lib.hid H
  have HW := Lib.hid (H.word 0)
  cases hz : isOver (ldG S r)
  · rw [show (inspectA S r).1 = ldS S r 0 from rfl, show (inspectA S r).2 = proceedR (ldG S r) by unfold inspectA; rw [hz]; rfl]
    have HZ : Hid (isOver (ldG S r) = false) := hz
    clear hz
    clear H hr hF he
    go_enter Tryz.func116, Tryz.ntmps116
    go_wp2_with fail
    go_at_call 71
    refine (loadGate_any H0.out (HR.out.mono (by omega))).mono ?_
    rintro e w1 ⟨rfl, hy⟩
    have H1 := Lib.hid hy
    clear hy 
    go_wp2_with fail
    have HO := Lib.hid (isOver_any H1.out HW.out HF.out.wf HE.out)
    rw [HZ.out] at HO
    go_at_call 145
    refine (HO.out).mono ?_
    rintro e w2 ⟨rfl, hy⟩
    have H2 := Lib.hid hy
    clear hy 
    go_wp2_with fail
    go_at_call 117
    refine (proceed_act H2.out).mono ?_
    rintro e w3 ⟨rfl, hy⟩
    have H3 := Lib.hid hy
    clear hy 
    go_wp2_with fail
    go_end0
    exact ⟨rfl, H3.out⟩
  · rw [show (inspectA S r).1 = ldS S r 0 from rfl, show (inspectA S r).2 = goto (ldG S r) .kill by unfold inspectA; rw [hz]; rfl]
    have HZ : Hid (isOver (ldG S r) = true) := hz
    clear hz
    clear H hr hF he
    go_enter Tryz.func116, Tryz.ntmps116
    go_wp2_with fail
    go_at_call 71
    refine (loadGate_any H0.out (HR.out.mono (by omega))).mono ?_
    rintro e w1 ⟨rfl, hy⟩
    have H1 := Lib.hid hy
    clear hy 
    go_wp2_with fail
    have HO := Lib.hid (isOver_any H1.out HW.out HF.out.wf HE.out)
    rw [HZ.out] at HO
    go_at_call 145
    refine (HO.out).mono ?_
    rintro e w2 ⟨rfl, hy⟩
    have H2 := Lib.hid hy
    clear hy 
    go_wp2_with fail
    go_at_call 37
    refine (then_any H2.out .kill _ rfl).mono ?_
    rintro e w3 ⟨rfl, hy⟩
    have H3 := Lib.hid hy
    clear hy 
    go_wp2_with fail
    go_end0
    exact ⟨rfl, H3.out⟩
theorem removed_act (H : Y b S r W) : Calls Tryz.prog 77 #[ptr b.g] W (Yd b U S (proceedR { r with n := IntKind.i64.wrap (r.n + 1) })) := by
  have H0 := Lib.hid H
  obtain ⟨z, hzz⟩ : ∃ z, IntKind.i64.wrap (r.n + 1) = z := ⟨_, rfl⟩
  rw [hzz]
  have HS := Lib.hid (H0.out.set (r' := { r with n := z }) 9 (.int .i64 z) (fun _ _ => rfl) rfl rfl)
  have q0 := H0.out.frozen 9
  have y0_0 := H0.out.cell 9 (.int .i64 r.n) (fun _ _ => rfl)
  clear H
  go_enter Tryz.func77, Tryz.ntmps77
  go_wp2_with fail
  go_at_call 117
  refine (proceed_act HS.out).mono ?_
  rintro e w1 ⟨rfl, hy⟩
  have H1 := Lib.hid hy
  clear hy y0_0 q0 hzz
  go_wp2_with fail
  go_end0
  exact ⟨rfl, H1.out⟩
set_option maxHeartbeats 2000000 in
theorem finish_act (H : Y b S r W) (hr : Rm 9 S) (hF : Fit b.C S r) (he : Env b.w0) : Calls Tryz.prog 172 #[ptr b.g] W (Yd b U ((finishA b.C S r).1) ((finishA b.C S r).2)) := by
  have HR := Lib.hid hr
  have HF := Lib.hid hF
  have HE := Lib.hid he
  have H0 := Lib.hid H
  have hs1 := hF.st
  have hs2 := hF.cn
  by_cases hz : r.st + 1 = b.C.n
  · rw [show finishA b.C S r = endA (freeS S r r.st) { r with st := r.st + 1 } by unfold finishA; rw [if_pos hz]]
    have HZ : Hid ((((r.st : Int) + 1) == (b.C.n : Int)) = true) := by show _ = _; rw [← hz]; simp
    clear hz
    clear H hr hF he
    have y0 := H0.out.cell 23 (.int .i64 (r.st : Int)) (fun _ _ => rfl)
    go_enter Tryz.func172, Tryz.ntmps172
    go_wp2_with fail
    go_at_call 151
    refine (free_any H0.out (HR.out.mono (by omega)) (r.st : Int)).mono ?_
    rintro e w1 ⟨rfl, hy⟩
    have H1 := Lib.hid hy
    clear hy y0
    have H2 := Lib.hid (H1.out.set (r' := { r with st := r.st + 1 }) 23 (.int .i64 ((r.st : Int) + 1)) (fun _ _ => rfl) rfl rfl)
    have f0 := H1.out.frozen 23
    have c0 : w1.cell? ⟨b.g, 23, none⟩ = some (.int .i64 (r.st : Int)) := H1.out.cell 23 _ (fun _ _ => rfl)
    go_wp2_with fail
    obtain ⟨w2, hw2⟩ : ∃ VV, w1.setCell ⟨b.g, 23, none⟩ (.int .i64 ((r.st : Int) + 1)) = VV := ⟨_, rfl⟩
    rw [hw2] at H2 ⊢
    clear hw2 f0 c0 H1
    refine wp_region_held_drew (S := fun w' => w'.cell? ⟨b.g, 23, none⟩ = some (.int .i64 ((r.st : Int) + 1)) ∧ w'.cell? ⟨b.g, 0, none⟩ = some (ptr b.B) ∧ w'.cell? ⟨b.B, 0, none⟩ = some (.int .i64 (b.C.n : Int))) (by kernel_rfl) (⟨H2.out.drew.cell 23 _ (fun _ _ => rfl), H2.out.drew.cell 0 _ (fun _ _ => rfl), H2.out.drew.shared 0 _ (fun _ => rfl)⟩) (fun hH => ?_)
    refine wpAnyH_take (i := 0) (oi := ⟨some 15, _, _, _, _, _⟩) (v := ?v1) rfl (by kernel_rfl) (by kernel_rfl) (by kernel_rfl) (fun _ _ _ h => h) (Or.inl ⟨rfl, ?c1⟩) hH ?r1
    case c1 => (intro w' _; go_simp; (try with_reducible rfl))
    try simp only [Act.put, List.setIfInBounds_toArray, List.set_cons_zero, List.set_cons_succ]
    refine wpAnyH_take (i := 1) (oi := ⟨some 16, _, _, _, _, _⟩) (v := ?v2) rfl (by kernel_rfl) (by kernel_rfl) (by kernel_rfl) (fun _ _ _ h => h) (Or.inl ⟨rfl, ?c2⟩) hH ?r2
    case c2 => (intro w' _; go_simp; (try with_reducible rfl))
    try simp only [Act.put, List.setIfInBounds_toArray, List.set_cons_zero, List.set_cons_succ]
    refine wpAnyH_take (i := 2) (oi := ⟨some 17, _, _, _, _, _⟩) (v := ?v3) rfl (by kernel_rfl) (by kernel_rfl) (by kernel_rfl) (fun _ _ _ h => h) (Or.inl ⟨rfl, ?c3⟩) hH ?r3
    case c3 => (intro w' _; go_simp; (try with_reducible rfl))
    try simp only [Act.put, List.setIfInBounds_toArray, List.set_cons_zero, List.set_cons_succ]
    refine wpAnyH_take (i := 3) (oi := ⟨some 18, _, _, _, _, _⟩) (v := ?v4) rfl (by kernel_rfl) (by kernel_rfl) (by kernel_rfl) (fun _ _ _ h => h) (Or.inl ⟨rfl, ?c4⟩) hH ?r4
    case c4 => (intro w' hS; (try dsimp only at hS); go_simp; (try with_reducible rfl))
    try simp only [Act.put, List.setIfInBounds_toArray, List.set_cons_zero, List.set_cons_succ]
    refine wpAnyH_take (i := 4) (oi := ⟨some 19, _, _, _, _, _⟩) (v := ?v5) rfl (by kernel_rfl) (by kernel_rfl) (by kernel_rfl) (fun _ _ _ h => h) (Or.inl ⟨rfl, ?c5⟩) hH ?r5
    case c5 => (intro w' _; go_simp; (try with_reducible rfl))
    try simp only [Act.put, List.setIfInBounds_toArray, List.set_cons_zero, List.set_cons_succ]
    refine wpAnyH_take (i := 5) (oi := ⟨some 20, _, _, _, _, _⟩) (v := ?v6) rfl (by kernel_rfl) (by kernel_rfl) (by kernel_rfl) (fun _ _ _ h => h) (Or.inl ⟨rfl, ?c6⟩) hH ?r6
    case c6 => (intro w' _; go_simp; (try with_reducible rfl))
    try simp only [Act.put, List.setIfInBounds_toArray, List.set_cons_zero, List.set_cons_succ]
    refine wpAnyH_take (i := 6) (oi := ⟨some 21, _, _, _, _, _⟩) (v := ?v7) rfl (by kernel_rfl) (by kernel_rfl) (by kernel_rfl) (fun _ _ _ h => h) (Or.inl ⟨rfl, ?c7⟩) hH ?r7
    case c7 => (intro w' _; go_simp; (try with_reducible rfl))
    try simp only [Act.put, List.setIfInBounds_toArray, List.set_cons_zero, List.set_cons_succ]
    refine wpAnyH_take (i := 7) (oi := ⟨some 22, _, _, _, _, _⟩) (v := ?v8) rfl (by kernel_rfl) (by kernel_rfl) (by kernel_rfl) (fun _ _ _ h => h) (Or.inl ⟨rfl, ?c8⟩) hH ?r8
    case c8 => (intro w' hS; (try dsimp only at hS); go_simp; (try with_reducible rfl))
    try simp only [Act.put, List.setIfInBounds_toArray, List.set_cons_zero, List.set_cons_succ]
    refine wpAnyH_take (i := 8) (oi := ⟨some 23, _, _, _, _, _⟩) (v := ?v9) rfl (by kernel_rfl) (by kernel_rfl) (by kernel_rfl) (fun _ _ _ h => h) (Or.inl ⟨rfl, ?c9⟩) hH ?r9
    case c9 => (intro w' _; go_simp; (try with_reducible rfl))
    try simp only [Act.put, List.setIfInBounds_toArray, List.set_cons_zero, List.set_cons_succ]
    refine wpAnyH_take (i := 9) (oi := ⟨some 24, _, _, _, _, _⟩) (v := ?v10) rfl (by kernel_rfl) (by kernel_rfl) (by kernel_rfl) (fun _ _ _ h => h) (Or.inl ⟨rfl, ?c10⟩) hH ?r10
    case c10 => (intro w' _; go_simp; (try with_reducible rfl))
    try simp only [Act.put, List.setIfInBounds_toArray, List.set_cons_zero, List.set_cons_succ]
    refine wpAnyH_take (i := 10) (oi := ⟨some 25, _, _, _, _, _⟩) (v := ?v11) rfl (by kernel_rfl) (by kernel_rfl) (by kernel_rfl) (fun _ _ _ h => h) (Or.inl ⟨rfl, ?c11⟩) hH ?r11
    case c11 => (intro w' _; go_simp; (try with_reducible rfl))
    try simp only [Act.put, List.setIfInBounds_toArray, List.set_cons_zero, List.set_cons_succ]
    refine wpAnyH_take (i := 11) (oi := ⟨some 26, _, _, _, _, _⟩) (v := ?v12) rfl (by kernel_rfl) (by kernel_rfl) (by kernel_rfl) (fun _ _ _ h => h) (Or.inl ⟨rfl, ?c12⟩) hH ?r12
    case c12 => (intro w' hS; (try dsimp only at hS); go_simp; (try with_reducible rfl))
    try simp only [Act.put, List.setIfInBounds_toArray, List.set_cons_zero, List.set_cons_succ]
    refine wpAnyH_take (i := 12) (oi := ⟨some 27, _, _, _, _, _⟩) (v := ?v13) rfl (by kernel_rfl) (by kernel_rfl) (by kernel_rfl) (fun _ _ _ h => h) (Or.inl ⟨rfl, ?c13⟩) hH ?r13
    case c13 => (intro w' _; go_simp; (try with_reducible rfl))
    try simp only [Act.put, List.setIfInBounds_toArray, List.set_cons_zero, List.set_cons_succ]
    refine wpAnyH_done (by kernel_rfl) ?_ _
    have H3 := Lib.hid H2.out.drew
    clear H2
    obtain ⟨w3, hw3⟩ : ∃ VV, w2.drew = VV := ⟨_, rfl⟩
    rw [hw3] at hH H3 ⊢
    clear hH hw3
    have q1 := HZ.out
    go_wp2_with fail
    go_at_call 80
    refine (end_any H3.out ((HR.out.free (r.st : Int)).mono (by omega))).mono ?_
    rintro e w4 ⟨rfl, hy⟩
    have H4 := Lib.hid hy
    clear hy q1
    go_wp2_with fail
    go_end0
    exact ⟨rfl, H4.out⟩
  · rw [show finishA b.C S r = (freeS S r r.st, lockTo { r with st := r.st + 1 } ((r.st + 1 : Nat) : Int) .take) by unfold finishA; rw [if_neg hz]]
    have HZ : Hid ((((r.st : Int) + 1) == (b.C.n : Int)) = false) := by show _ = _; simp; omega
    clear hz
    clear H hr hF he
    have y0 := H0.out.cell 23 (.int .i64 (r.st : Int)) (fun _ _ => rfl)
    go_enter Tryz.func172, Tryz.ntmps172
    go_wp2_with fail
    go_at_call 151
    refine (free_any H0.out (HR.out.mono (by omega)) (r.st : Int)).mono ?_
    rintro e w1 ⟨rfl, hy⟩
    have H1 := Lib.hid hy
    clear hy y0
    have H2 := Lib.hid (H1.out.set (r' := { r with st := r.st + 1 }) 23 (.int .i64 ((r.st : Int) + 1)) (fun _ _ => rfl) rfl rfl)
    have f0 := H1.out.frozen 23
    have c0 : w1.cell? ⟨b.g, 23, none⟩ = some (.int .i64 (r.st : Int)) := H1.out.cell 23 _ (fun _ _ => rfl)
    go_wp2_with fail
    obtain ⟨w2, hw2⟩ : ∃ VV, w1.setCell ⟨b.g, 23, none⟩ (.int .i64 ((r.st : Int) + 1)) = VV := ⟨_, rfl⟩
    rw [hw2] at H2 ⊢
    clear hw2 f0 c0 H1
    refine wp_region_held_drew (S := fun w' => w'.cell? ⟨b.g, 23, none⟩ = some (.int .i64 ((r.st : Int) + 1)) ∧ w'.cell? ⟨b.g, 0, none⟩ = some (ptr b.B) ∧ w'.cell? ⟨b.B, 0, none⟩ = some (.int .i64 (b.C.n : Int))) (by kernel_rfl) (⟨H2.out.drew.cell 23 _ (fun _ _ => rfl), H2.out.drew.cell 0 _ (fun _ _ => rfl), H2.out.drew.shared 0 _ (fun _ => rfl)⟩) (fun hH => ?_)
    refine wpAnyH_take (i := 0) (oi := ⟨some 15, _, _, _, _, _⟩) (v := ?v14) rfl (by kernel_rfl) (by kernel_rfl) (by kernel_rfl) (fun _ _ _ h => h) (Or.inl ⟨rfl, ?c14⟩) hH ?r14
    case c14 => (intro w' _; go_simp; (try with_reducible rfl))
    try simp only [Act.put, List.setIfInBounds_toArray, List.set_cons_zero, List.set_cons_succ]
    refine wpAnyH_take (i := 1) (oi := ⟨some 16, _, _, _, _, _⟩) (v := ?v15) rfl (by kernel_rfl) (by kernel_rfl) (by kernel_rfl) (fun _ _ _ h => h) (Or.inl ⟨rfl, ?c15⟩) hH ?r15
    case c15 => (intro w' _; go_simp; (try with_reducible rfl))
    try simp only [Act.put, List.setIfInBounds_toArray, List.set_cons_zero, List.set_cons_succ]
    refine wpAnyH_take (i := 2) (oi := ⟨some 17, _, _, _, _, _⟩) (v := ?v16) rfl (by kernel_rfl) (by kernel_rfl) (by kernel_rfl) (fun _ _ _ h => h) (Or.inl ⟨rfl, ?c16⟩) hH ?r16
    case c16 => (intro w' _; go_simp; (try with_reducible rfl))
    try simp only [Act.put, List.setIfInBounds_toArray, List.set_cons_zero, List.set_cons_succ]
    refine wpAnyH_take (i := 3) (oi := ⟨some 18, _, _, _, _, _⟩) (v := ?v17) rfl (by kernel_rfl) (by kernel_rfl) (by kernel_rfl) (fun _ _ _ h => h) (Or.inl ⟨rfl, ?c17⟩) hH ?r17
    case c17 => (intro w' hS; (try dsimp only at hS); go_simp; (try with_reducible rfl))
    try simp only [Act.put, List.setIfInBounds_toArray, List.set_cons_zero, List.set_cons_succ]
    refine wpAnyH_take (i := 4) (oi := ⟨some 19, _, _, _, _, _⟩) (v := ?v18) rfl (by kernel_rfl) (by kernel_rfl) (by kernel_rfl) (fun _ _ _ h => h) (Or.inl ⟨rfl, ?c18⟩) hH ?r18
    case c18 => (intro w' _; go_simp; (try with_reducible rfl))
    try simp only [Act.put, List.setIfInBounds_toArray, List.set_cons_zero, List.set_cons_succ]
    refine wpAnyH_take (i := 5) (oi := ⟨some 20, _, _, _, _, _⟩) (v := ?v19) rfl (by kernel_rfl) (by kernel_rfl) (by kernel_rfl) (fun _ _ _ h => h) (Or.inl ⟨rfl, ?c19⟩) hH ?r19
    case c19 => (intro w' _; go_simp; (try with_reducible rfl))
    try simp only [Act.put, List.setIfInBounds_toArray, List.set_cons_zero, List.set_cons_succ]
    refine wpAnyH_take (i := 6) (oi := ⟨some 21, _, _, _, _, _⟩) (v := ?v20) rfl (by kernel_rfl) (by kernel_rfl) (by kernel_rfl) (fun _ _ _ h => h) (Or.inl ⟨rfl, ?c20⟩) hH ?r20
    case c20 => (intro w' _; go_simp; (try with_reducible rfl))
    try simp only [Act.put, List.setIfInBounds_toArray, List.set_cons_zero, List.set_cons_succ]
    refine wpAnyH_take (i := 7) (oi := ⟨some 22, _, _, _, _, _⟩) (v := ?v21) rfl (by kernel_rfl) (by kernel_rfl) (by kernel_rfl) (fun _ _ _ h => h) (Or.inl ⟨rfl, ?c21⟩) hH ?r21
    case c21 => (intro w' hS; (try dsimp only at hS); go_simp; (try with_reducible rfl))
    try simp only [Act.put, List.setIfInBounds_toArray, List.set_cons_zero, List.set_cons_succ]
    refine wpAnyH_take (i := 8) (oi := ⟨some 23, _, _, _, _, _⟩) (v := ?v22) rfl (by kernel_rfl) (by kernel_rfl) (by kernel_rfl) (fun _ _ _ h => h) (Or.inl ⟨rfl, ?c22⟩) hH ?r22
    case c22 => (intro w' _; go_simp; (try with_reducible rfl))
    try simp only [Act.put, List.setIfInBounds_toArray, List.set_cons_zero, List.set_cons_succ]
    refine wpAnyH_take (i := 9) (oi := ⟨some 24, _, _, _, _, _⟩) (v := ?v23) rfl (by kernel_rfl) (by kernel_rfl) (by kernel_rfl) (fun _ _ _ h => h) (Or.inl ⟨rfl, ?c23⟩) hH ?r23
    case c23 => (intro w' _; go_simp; (try with_reducible rfl))
    try simp only [Act.put, List.setIfInBounds_toArray, List.set_cons_zero, List.set_cons_succ]
    refine wpAnyH_take (i := 10) (oi := ⟨some 25, _, _, _, _, _⟩) (v := ?v24) rfl (by kernel_rfl) (by kernel_rfl) (by kernel_rfl) (fun _ _ _ h => h) (Or.inl ⟨rfl, ?c24⟩) hH ?r24
    case c24 => (intro w' _; go_simp; (try with_reducible rfl))
    try simp only [Act.put, List.setIfInBounds_toArray, List.set_cons_zero, List.set_cons_succ]
    refine wpAnyH_take (i := 11) (oi := ⟨some 26, _, _, _, _, _⟩) (v := ?v25) rfl (by kernel_rfl) (by kernel_rfl) (by kernel_rfl) (fun _ _ _ h => h) (Or.inl ⟨rfl, ?c25⟩) hH ?r25
    case c25 => (intro w' hS; (try dsimp only at hS); go_simp; (try with_reducible rfl))
    try simp only [Act.put, List.setIfInBounds_toArray, List.set_cons_zero, List.set_cons_succ]
    refine wpAnyH_take (i := 12) (oi := ⟨some 27, _, _, _, _, _⟩) (v := ?v26) rfl (by kernel_rfl) (by kernel_rfl) (by kernel_rfl) (fun _ _ _ h => h) (Or.inl ⟨rfl, ?c26⟩) hH ?r26
    case c26 => (intro w' _; go_simp; (try with_reducible rfl))
    try simp only [Act.put, List.setIfInBounds_toArray, List.set_cons_zero, List.set_cons_succ]
    refine wpAnyH_done (by kernel_rfl) ?_ _
    have H3 := Lib.hid H2.out.drew
    clear H2
    obtain ⟨w3, hw3⟩ : ∃ VV, w2.drew = VV := ⟨_, rfl⟩
    rw [hw3] at hH H3 ⊢
    clear hH hw3
    have q1 := HZ.out
    have y0 : w3.cell? ⟨b.g, 23, none⟩ = some (.int .i64 ((r.st : Int) + 1)) := H3.out.cell 23 _ (fun _ _ => rfl)
    go_wp2_with fail
    go_at_call 69
    refine (lockThen_any H3.out (((r.st + 1 : Nat) : Int)) .take _ rfl).mono ?_
    rintro e w4 ⟨rfl, hy⟩
    have H4 := Lib.hid hy
    clear hy q1
    go_wp2_with fail
    go_end0
    exact ⟨rfl, H4.out⟩
end
end Pg
end Go.Proofs.YtcockldefmmhbaaGreatDoor
/- Layer 21: the acts, a fifth part. (Written by wip/tools/mkPrgL.py.) -/
set_option linter.unusedVariables false
set_option linter.unusedSimpArgs false
set_option maxRecDepth 100000
namespace Go.Proofs.YtcockldefmmhbaaGreatDoor
open Go.ChangeShapes Go.WideShapes Go.ChangeAt Go.RowKit Go.Mtl Go.Lib
namespace Pg
open MemM (Ms lookV loadS swapB swapS holdV lockB lockS unlockS touchS moreS)
open RulM (R)
open AutM (Ke)
open Me (ptr)
open Tb (TAt TM Fw)
section
variable {b : Bs} {W : World} {S : Sh} {r : Rn}
theorem remove_y (H : Y b S r W) (hr : Rm 0 S) (hk : r.k.Ok) : Calls Tryz.prog 170 #[ptr b.tb, .int .i64 r.t, .agg #[.int .u32 (r.k.a : Int), .int .u32 (r.k.b : Int), .int .u16 (r.k.p : Int), .int .u16 (r.k.q : Int), .int .u8 (r.k.r : Int)]] W fun e w' => (∃ ve, e = .returned (.int .i64 ve)) ∧ Y b (remS b.C S r) r w' := by
  cases hh : hasB b.C S r with
  | false =>
    rw [show remS b.C S r = S by unfold remS; rw [hh]; rfl]
    refine (H.table (fs' := S.fs) (fun w Om Ot h => Tb.remove_no h r.t r.k hk _ rfl hh)).mono ?_
    rintro e w' ⟨rfl, h⟩
    exact ⟨⟨_, rfl⟩, h⟩
  | true =>
    rw [show remS b.C S r = { S with ms := touchS S.ms r.t 6 ((Tb.sOf b.C.n r.k : Nat) : Int), fs := TabM.drop r.k S.fs } by unfold remS; rw [hh]; rfl]
    cases hf : TabM.find r.k S.fs with
    | none =>
      refine (H.table (fun w Om Ot h => Tb.remove_yes h hr.l r.t r.k hk 0 false false 15 _ rfl hh (.inr ⟨hf, rfl, rfl, rfl, rfl⟩))).mono ?_
      rintro e w' ⟨rfl, h⟩
      exact ⟨⟨_, rfl⟩, h⟩
    | some f =>
      refine (H.table (fun w Om Ot h => Tb.remove_yes h hr.l r.t r.k hk f.x f.dn true 0 _ rfl hh (.inl ⟨f, hf, rfl, rfl, rfl, rfl⟩))).mono ?_
      rintro e w' ⟨rfl, h⟩
      exact ⟨⟨_, rfl⟩, h⟩
set_option maxHeartbeats 4000000 in
theorem kill_act (H : Y b S r W) (hr : Rm 9 S) (hF : Fit b.C S r) (he : Env b.w0) (hq : r.q = 1 ∨ sweeps r.q = true) : Calls Tryz.prog 115 #[ptr b.g] W (Yd b U ((killA b.C S r).1) ((killA b.C S r).2)) := by
  have HR := Lib.hid hr
  have HF := Lib.hid hF
  have HE := Lib.hid he
  have H0 := Lib.hid H
  have HN := Lib.hid w_dead
  cases hz : swapB S.ms r.x r.wf
  · rcases hq with hq | hq
    · rw [show killA b.C S r = (swS S r r.x r.wf deadW, goto r .again) by unfold killA; rw [hz, show sweeps r.q = false by rw [hq]; rfl]; rfl]
      have HQ : Hid (retryV r.q = fnV 67) := by show _ = _; unfold retryV; rw [if_pos hq]
      have HZ : Hid (swapB S.ms r.x r.wf = false) := hz
      clear hz hq
      clear H hr hF he
      go_enter Tryz.func115, Tryz.ntmps115
      go_wp2_with fail
      go_at_call 169
      refine (deadF _ (H0.out.env HE.out)).mono ?_
      rintro e w1 ⟨rfl, hy⟩
      have H1 := Lib.hid (H0.out.next hy)
      clear hy H0
      go_wp2_with fail
      have HSW := Lib.hid (swapFlow_any H1.out (HR.out.mono (by omega)) _ HN.out)
      rw [HZ.out] at HSW
      go_at_call 168
      refine HSW.out.mono ?_
      rintro e w2 ⟨rfl, hy⟩
      have H2 := Lib.hid hy
      clear hy HSW H1
      have q0 : w2.cell? ⟨b.g, 21, none⟩ = some (retryV r.q) := H2.out.cell 21 _ (fun _ _ => rfl)
      rw [HQ.out] at q0
      go_wp2_with fail
      go_at_call 37
      refine (then_any H2.out .again _ rfl).mono ?_
      rintro e w4 ⟨rfl, hy⟩
      have H4 := Lib.hid hy
      clear hy
      (try clear q0)
      go_wp2_with fail
      go_end0
      exact ⟨rfl, H4.out⟩
    · rw [show killA b.C S r = (swS S r r.x r.wf deadW, goto r .visit) by unfold killA; rw [hz, hq]; rfl]
      have HQ : Hid (retryV r.q = fnV 76) := by show _ = _; unfold retryV; rw [if_neg (by intro e; rw [e] at hq; cases hq), hq]; rfl
      have HZ : Hid (swapB S.ms r.x r.wf = false) := hz
      clear hz hq
      clear H hr hF he
      go_enter Tryz.func115, Tryz.ntmps115
      go_wp2_with fail
      go_at_call 169
      refine (deadF _ (H0.out.env HE.out)).mono ?_
      rintro e w1 ⟨rfl, hy⟩
      have H1 := Lib.hid (H0.out.next hy)
      clear hy H0
      go_wp2_with fail
      have HSW := Lib.hid (swapFlow_any H1.out (HR.out.mono (by omega)) _ HN.out)
      rw [HZ.out] at HSW
      go_at_call 168
      refine HSW.out.mono ?_
      rintro e w2 ⟨rfl, hy⟩
      have H2 := Lib.hid hy
      clear hy HSW H1
      have q0 : w2.cell? ⟨b.g, 21, none⟩ = some (retryV r.q) := H2.out.cell 21 _ (fun _ _ => rfl)
      rw [HQ.out] at q0
      go_wp2_with fail
      go_at_call 37
      refine (then_any H2.out .visit _ rfl).mono ?_
      rintro e w4 ⟨rfl, hy⟩
      have H4 := Lib.hid hy
      clear hy
      (try clear q0)
      go_wp2_with fail
      go_end0
      exact ⟨rfl, H4.out⟩
  · rw [show killA b.C S r = (remS b.C (swS S r r.x r.wf deadW) r, goto r .less) by unfold killA; rw [hz]; rfl]
    have HZ : Hid (swapB S.ms r.x r.wf = true) := hz
    clear hz hq
    clear H hr hF he
    go_enter Tryz.func115, Tryz.ntmps115
    go_wp2_with fail
    go_at_call 169
    refine (deadF _ (H0.out.env HE.out)).mono ?_
    rintro e w1 ⟨rfl, hy⟩
    have H1 := Lib.hid (H0.out.next hy)
    clear hy H0
    go_wp2_with fail
    have HSW := Lib.hid (swapFlow_any H1.out (HR.out.mono (by omega)) _ HN.out)
    rw [HZ.out] at HSW
    go_at_call 168
    refine HSW.out.mono ?_
    rintro e w2 ⟨rfl, hy⟩
    have H2 := Lib.hid hy
    clear hy HSW H1
    go_wp2_with fail
    refine wp_region_held_drew (S := fun w' => w'.cell? ⟨b.g, 0, none⟩ = some (ptr b.B) ∧ w'.cell? ⟨b.B, 19, none⟩ = some (ptr b.tb) ∧ w'.cell? ⟨b.g, 1, none⟩ = some (.int .i64 r.t) ∧ w'.cell? ⟨b.g, 25, none⟩ = some (.int .u32 (r.k.a : Int)) ∧ w'.cell? ⟨b.g, 26, none⟩ = some (.int .u32 (r.k.b : Int)) ∧ w'.cell? ⟨b.g, 27, none⟩ = some (.int .u16 (r.k.p : Int)) ∧ w'.cell? ⟨b.g, 28, none⟩ = some (.int .u16 (r.k.q : Int)) ∧ w'.cell? ⟨b.g, 29, none⟩ = some (.int .u8 (r.k.r : Int))) (by kernel_rfl) (⟨H2.out.drew.cell 0 (ptr b.B) (fun _ _ => rfl), H2.out.drew.shared 19 (ptr b.tb) (fun _ => rfl), H2.out.drew.cell 1 (.int .i64 r.t) (fun _ _ => rfl), H2.out.drew.cell 25 (.int .u32 (r.k.a : Int)) (fun _ _ => rfl), H2.out.drew.cell 26 (.int .u32 (r.k.b : Int)) (fun _ _ => rfl), H2.out.drew.cell 27 (.int .u16 (r.k.p : Int)) (fun _ _ => rfl), H2.out.drew.cell 28 (.int .u16 (r.k.q : Int)) (fun _ _ => rfl), H2.out.drew.cell 29 (.int .u8 (r.k.r : Int)) (fun _ _ => rfl)⟩) (fun hH => ?_)
    refine wpAnyH_take (i := 0) (oi := ⟨some 12, _, _, _, _, _⟩) (v := ?v1) rfl (by kernel_rfl) (by kernel_rfl) (by kernel_rfl) (fun _ _ _ h => h) (Or.inl ⟨rfl, ?c1⟩) hH ?r1
    case c1 => (intro w' _; go_simp; (try with_reducible rfl))
    try simp only [Act.put, List.setIfInBounds_toArray, List.set_cons_zero, List.set_cons_succ]
    refine wpAnyH_take (i := 1) (oi := ⟨some 13, _, _, _, _, _⟩) (v := ?v2) rfl (by kernel_rfl) (by kernel_rfl) (by kernel_rfl) (fun _ _ _ h => h) (Or.inl ⟨rfl, ?c2⟩) hH ?r2
    case c2 => (intro w' _; go_simp; (try with_reducible rfl))
    try simp only [Act.put, List.setIfInBounds_toArray, List.set_cons_zero, List.set_cons_succ]
    refine wpAnyH_take (i := 2) (oi := ⟨some 14, _, _, _, _, _⟩) (v := ?v3) rfl (by kernel_rfl) (by kernel_rfl) (by kernel_rfl) (fun _ _ _ h => h) (Or.inl ⟨rfl, ?c3⟩) hH ?r3
    case c3 => (intro w' _; go_simp; (try with_reducible rfl))
    try simp only [Act.put, List.setIfInBounds_toArray, List.set_cons_zero, List.set_cons_succ]
    refine wpAnyH_take (i := 3) (oi := ⟨some 15, _, _, _, _, _⟩) (v := ?v4) rfl (by kernel_rfl) (by kernel_rfl) (by kernel_rfl) (fun _ _ _ h => h) (Or.inl ⟨rfl, ?c4⟩) hH ?r4
    case c4 => (intro w' hS; (try dsimp only at hS); go_simp; (try with_reducible rfl))
    try simp only [Act.put, List.setIfInBounds_toArray, List.set_cons_zero, List.set_cons_succ]
    refine wpAnyH_take (i := 4) (oi := ⟨some 16, _, _, _, _, _⟩) (v := ?v5) rfl (by kernel_rfl) (by kernel_rfl) (by kernel_rfl) (fun _ _ _ h => h) (Or.inl ⟨rfl, ?c5⟩) hH ?r5
    case c5 => (intro w' _; go_simp; (try with_reducible rfl))
    try simp only [Act.put, List.setIfInBounds_toArray, List.set_cons_zero, List.set_cons_succ]
    refine wpAnyH_take (i := 5) (oi := ⟨some 17, _, _, _, _, _⟩) (v := ?v6) rfl (by kernel_rfl) (by kernel_rfl) (by kernel_rfl) (fun _ _ _ h => h) (Or.inl ⟨rfl, ?c6⟩) hH ?r6
    case c6 => (intro w' _; go_simp; (try with_reducible rfl))
    try simp only [Act.put, List.setIfInBounds_toArray, List.set_cons_zero, List.set_cons_succ]
    refine wpAnyH_take (i := 6) (oi := ⟨some 18, _, _, _, _, _⟩) (v := ?v7) rfl (by kernel_rfl) (by kernel_rfl) (by kernel_rfl) (fun _ _ _ h => h) (Or.inl ⟨rfl, ?c7⟩) hH ?r7
    case c7 => (intro w' hS; (try dsimp only at hS); go_simp; (try with_reducible rfl))
    try simp only [Act.put, List.setIfInBounds_toArray, List.set_cons_zero, List.set_cons_succ]
    refine wpAnyH_take (i := 7) (oi := ⟨some 19, _, _, _, _, _⟩) (v := ?v8) rfl (by kernel_rfl) (by kernel_rfl) (by kernel_rfl) (fun _ _ _ h => h) (Or.inl ⟨rfl, ?c8⟩) hH ?r8
    case c8 => (intro w' _; go_simp; (try with_reducible rfl))
    try simp only [Act.put, List.setIfInBounds_toArray, List.set_cons_zero, List.set_cons_succ]
    refine wpAnyH_take (i := 8) (oi := ⟨some 20, _, _, _, _, _⟩) (v := ?v9) rfl (by kernel_rfl) (by kernel_rfl) (by kernel_rfl) (fun _ _ _ h => h) (Or.inl ⟨rfl, ?c9⟩) hH ?r9
    case c9 => (intro w' _; go_simp; (try with_reducible rfl))
    try simp only [Act.put, List.setIfInBounds_toArray, List.set_cons_zero, List.set_cons_succ]
    refine wpAnyH_take (i := 9) (oi := ⟨some 21, _, _, _, _, _⟩) (v := ?v10) rfl (by kernel_rfl) (by kernel_rfl) (by kernel_rfl) (fun _ _ _ h => h) (Or.inl ⟨rfl, ?c10⟩) hH ?r10
    case c10 => (intro w' _; go_simp; (try with_reducible rfl))
    try simp only [Act.put, List.setIfInBounds_toArray, List.set_cons_zero, List.set_cons_succ]
    refine wpAnyH_take (i := 10) (oi := ⟨some 22, _, _, _, _, _⟩) (v := ?v11) rfl (by kernel_rfl) (by kernel_rfl) (by kernel_rfl) (fun _ _ _ h => h) (Or.inl ⟨rfl, ?c11⟩) hH ?r11
    case c11 => (intro w' hS; (try dsimp only at hS); go_simp; (try with_reducible rfl))
    try simp only [Act.put, List.setIfInBounds_toArray, List.set_cons_zero, List.set_cons_succ]
    refine wpAnyH_take (i := 11) (oi := ⟨some 23, _, _, _, _, _⟩) (v := ?v12) rfl (by kernel_rfl) (by kernel_rfl) (by kernel_rfl) (fun _ _ _ h => h) (Or.inl ⟨rfl, ?c12⟩) hH ?r12
    case c12 => (intro w' _; go_simp; (try with_reducible rfl))
    try simp only [Act.put, List.setIfInBounds_toArray, List.set_cons_zero, List.set_cons_succ]
    refine wpAnyH_take (i := 12) (oi := ⟨some 24, _, _, _, _, _⟩) (v := ?v13) rfl (by kernel_rfl) (by kernel_rfl) (by kernel_rfl) (fun _ _ _ h => h) (Or.inl ⟨rfl, ?c13⟩) hH ?r13
    case c13 => (intro w' _; go_simp; (try with_reducible rfl))
    try simp only [Act.put, List.setIfInBounds_toArray, List.set_cons_zero, List.set_cons_succ]
    refine wpAnyH_take (i := 13) (oi := ⟨some 25, _, _, _, _, _⟩) (v := ?v14) rfl (by kernel_rfl) (by kernel_rfl) (by kernel_rfl) (fun _ _ _ h => h) (Or.inl ⟨rfl, ?c14⟩) hH ?r14
    case c14 => (intro w' _; go_simp; (try with_reducible rfl))
    try simp only [Act.put, List.setIfInBounds_toArray, List.set_cons_zero, List.set_cons_succ]
    refine wpAnyH_take (i := 14) (oi := ⟨some 26, _, _, _, _, _⟩) (v := ?v15) rfl (by kernel_rfl) (by kernel_rfl) (by kernel_rfl) (fun _ _ _ h => h) (Or.inl ⟨rfl, ?c15⟩) hH ?r15
    case c15 => (intro w' hS; (try dsimp only at hS); go_simp; (try with_reducible rfl))
    try simp only [Act.put, List.setIfInBounds_toArray, List.set_cons_zero, List.set_cons_succ]
    refine wpAnyH_ready (rs := [15]) (by kernel_rfl) (by simp) (AllReadyH.cons rfl (fun K hK => ?_) (AllReadyH.nil))
    go_simp
    go_at_call 170
    refine (remove_y H2.out.drew ((HR.out.sw r.x r.wf deadW).mono (by omega)) HF.out.k).mono ?_
    rintro e w3 ⟨⟨ve, rfl⟩, hy⟩
    refine hK.out _ _ (⟨hy.cell 0 (ptr b.B) (fun _ _ => rfl), hy.shared 19 (ptr b.tb) (fun _ => rfl), hy.cell 1 (.int .i64 r.t) (fun _ _ => rfl), hy.cell 25 (.int .u32 (r.k.a : Int)) (fun _ _ => rfl), hy.cell 26 (.int .u32 (r.k.b : Int)) (fun _ _ => rfl), hy.cell 27 (.int .u16 (r.k.p : Int)) (fun _ _ => rfl), hy.cell 28 (.int .u16 (r.k.q : Int)) (fun _ _ => rfl), hy.cell 29 (.int .u8 (r.k.r : Int)) (fun _ _ => rfl)⟩) (fun hH => ?_)
    clear hK K
    have H3 := Lib.hid hy
    clear hy H2
    try simp only [Act.put, List.setIfInBounds_toArray, List.set_cons_zero, List.set_cons_succ]
    refine wpAnyH_done (by kernel_rfl) ?_ _
    clear hH
    go_wp2_with fail
    go_at_call 37
    refine (then_any H3.out .less _ rfl).mono ?_
    rintro e w4 ⟨rfl, hy⟩
    have H4 := Lib.hid hy
    clear hy
    (try clear q0)
    go_wp2_with fail
    go_end0
    exact ⟨rfl, H4.out⟩
set_option maxHeartbeats 4000000 in
theorem leave_act (H : Y b S r W) (hr : Rm 9 S) (hF : Fit b.C S r) (he : Env b.w0) (hq : r.q = 1 ∨ sweeps r.q = true) : Calls Tryz.prog 223 #[ptr b.g] W (Yd b U ((leaveA S r).1) ((leaveA S r).2)) := by
  have HR := Lib.hid hr
  have HF := Lib.hid hF
  have HE := Lib.hid he
  have H0 := Lib.hid H
  have HN := Lib.hid (w_leave hF.wg)
  cases hz : swapB S.ms 0 r.wg
  · rw [show leaveA S r = (swS S r 0 r.wg (leaveW r.wg), goto r .less) by unfold leaveA; rw [hz]; rfl]
    have HZ : Hid (swapB S.ms 0 r.wg = false) := hz
    clear hz hq
    have y0 := H0.out.cell 35 (.int .u64 r.wg) (fun _ _ => rfl)
    clear H hr hF he
    go_enter Tryz.func223, Tryz.ntmps223
    go_wp2_with fail
    go_at_call 269
    refine (leaveG HF.out.wg _ (H0.out.env HE.out)).mono ?_
    rintro e w1 ⟨rfl, hy⟩
    have H1 := Lib.hid (H0.out.next hy)
    clear hy H0 y0
    go_wp2_with fail
    have HSW := Lib.hid (swapGate_any H1.out (HR.out.mono (by omega)) _ HN.out)
    rw [HZ.out] at HSW
    go_at_call 111
    refine HSW.out.mono ?_
    rintro e w2 ⟨rfl, hy⟩
    have H2 := Lib.hid hy
    clear hy HSW H1
    go_wp2_with fail
    go_at_call 37
    refine (then_any H2.out .less _ rfl).mono ?_
    rintro e w4 ⟨rfl, hy⟩
    have H4 := Lib.hid hy
    clear hy
    (try clear q0)
    go_wp2_with fail
    go_end0
    exact ⟨rfl, H4.out⟩
  · have HF3 : ∀ S', Hid (Fit b.C S' r → True) := fun _ => fun _ => trivial
    clear HF3
    rcases hq with hq | hq
    · rw [show leaveA S r = (say (swS S r 0 r.wg (leaveW r.wg)) r 4 r.k 0 0, goto r .absent) by unfold leaveA goneR; rw [hz, hq]; rfl]
      have HQ : Hid (goneV r.q = fnV 68) := by show _ = _; unfold goneV; rw [hq]; rfl
      have HQ4 : Hid ((r.q == 4) = false) := by show _ = _; rw [hq]; rfl
      have HZ : Hid (swapB S.ms 0 r.wg = true) := hz
      clear hz hq
      have y0 := H0.out.cell 35 (.int .u64 r.wg) (fun _ _ => rfl)
      clear H hr hF he
      go_enter Tryz.func223, Tryz.ntmps223
      go_wp2_with fail
      go_at_call 269
      refine (leaveG HF.out.wg _ (H0.out.env HE.out)).mono ?_
      rintro e w1 ⟨rfl, hy⟩
      have H1 := Lib.hid (H0.out.next hy)
      clear hy H0 y0
      go_wp2_with fail
      have HSW := Lib.hid (swapGate_any H1.out (HR.out.mono (by omega)) _ HN.out)
      rw [HZ.out] at HSW
      go_at_call 111
      refine HSW.out.mono ?_
      rintro e w2 ⟨rfl, hy⟩
      have H2 := Lib.hid hy
      clear hy HSW H1
      have k0 := H2.out.cell 25 (.int .u32 (r.k.a : Int)) (fun _ _ => rfl)
      have k1 := H2.out.cell 26 (.int .u32 (r.k.b : Int)) (fun _ _ => rfl)
      have k2 := H2.out.cell 27 (.int .u16 (r.k.p : Int)) (fun _ _ => rfl)
      have k3 := H2.out.cell 28 (.int .u16 (r.k.q : Int)) (fun _ _ => rfl)
      have k4 := H2.out.cell 29 (.int .u8 (r.k.r : Int)) (fun _ _ => rfl)
      have k5 : (w2.alloc (.cells #[.int .i64 4, .int .i64 0, .int .i64 0, .int .u32 (r.k.a : Int), .int .u32 (r.k.b : Int), .int .u16 (r.k.p : Int), .int .u16 (r.k.q : Int), .int .u8 (r.k.r : Int), .int .i64 0, .int .i64 0] 89)).cell? ⟨b.g, 20, none⟩ = some (.bool (r.q == 4)) := (H2.out.alloc _).cell 20 _ (fun _ _ => rfl)
      rw [HQ4.out] at k5
      have H2A := Lib.hid (H2.out.alloc (.cells #[.int .i64 4, .int .i64 0, .int .i64 0, .int .u32 (r.k.a : Int), .int .u32 (r.k.b : Int), .int .u16 (r.k.p : Int), .int .u16 (r.k.q : Int), .int .u8 (r.k.r : Int), .int .i64 0, .int .i64 0] 89))
      go_wp2_with fail
      go_at_call 44
      refine (record_any H2A.out ((HR.out.sw 0 r.wg (leaveW r.wg)).mono (by omega)) 4 r.k 0 0).mono ?_
      rintro e w3 ⟨rfl, hy⟩
      have H3 := Lib.hid hy
      clear hy k0 k1 k2 k3 k4 k5 H2A H2
      have q0 : w3.cell? ⟨b.g, 22, none⟩ = some (goneV r.q) := H3.out.cell 22 _ (fun _ _ => rfl)
      rw [HQ.out] at q0
      go_wp2_with fail
      go_at_call 68
      refine (reopen_act H3.out).mono ?_
      rintro e w4 ⟨rfl, hy⟩
      have H4 := Lib.hid hy
      clear hy
      (try clear q0)
      go_wp2_with fail
      go_end0
      exact ⟨rfl, H4.out⟩
    · by_cases h4 : r.q = 4
      · replace hq := h4
        rw [show leaveA S r = (say (swS S r 0 r.wg (leaveW r.wg)) r 4 r.k 0 1, proceedR { r with n := IntKind.i64.wrap (r.n + 1) }) by unfold leaveA goneR; rw [hz, hq]; rfl]
        have HQ : Hid (goneV r.q = fnV 77) := by show _ = _; unfold goneV; rw [hq]; rfl
        have HQ4 : Hid ((r.q == 4) = true) := by show _ = _; rw [hq]; rfl
        have HZ : Hid (swapB S.ms 0 r.wg = true) := hz
        clear hz hq
        have y0 := H0.out.cell 35 (.int .u64 r.wg) (fun _ _ => rfl)
        clear H hr hF he
        go_enter Tryz.func223, Tryz.ntmps223
        go_wp2_with fail
        go_at_call 269
        refine (leaveG HF.out.wg _ (H0.out.env HE.out)).mono ?_
        rintro e w1 ⟨rfl, hy⟩
        have H1 := Lib.hid (H0.out.next hy)
        clear hy H0 y0
        go_wp2_with fail
        have HSW := Lib.hid (swapGate_any H1.out (HR.out.mono (by omega)) _ HN.out)
        rw [HZ.out] at HSW
        go_at_call 111
        refine HSW.out.mono ?_
        rintro e w2 ⟨rfl, hy⟩
        have H2 := Lib.hid hy
        clear hy HSW H1
        have k0 := H2.out.cell 25 (.int .u32 (r.k.a : Int)) (fun _ _ => rfl)
        have k1 := H2.out.cell 26 (.int .u32 (r.k.b : Int)) (fun _ _ => rfl)
        have k2 := H2.out.cell 27 (.int .u16 (r.k.p : Int)) (fun _ _ => rfl)
        have k3 := H2.out.cell 28 (.int .u16 (r.k.q : Int)) (fun _ _ => rfl)
        have k4 := H2.out.cell 29 (.int .u8 (r.k.r : Int)) (fun _ _ => rfl)
        have k5 : (w2.alloc (.cells #[.int .i64 4, .int .i64 0, .int .i64 0, .int .u32 (r.k.a : Int), .int .u32 (r.k.b : Int), .int .u16 (r.k.p : Int), .int .u16 (r.k.q : Int), .int .u8 (r.k.r : Int), .int .i64 0, .int .i64 0] 89)).cell? ⟨b.g, 20, none⟩ = some (.bool (r.q == 4)) := (H2.out.alloc _).cell 20 _ (fun _ _ => rfl)
        rw [HQ4.out] at k5
        have H2A := Lib.hid (H2.out.alloc (.cells #[.int .i64 4, .int .i64 0, .int .i64 0, .int .u32 (r.k.a : Int), .int .u32 (r.k.b : Int), .int .u16 (r.k.p : Int), .int .u16 (r.k.q : Int), .int .u8 (r.k.r : Int), .int .i64 0, .int .i64 1] 89))
        go_wp2_with fail
        go_at_call 44
        refine (record_any H2A.out ((HR.out.sw 0 r.wg (leaveW r.wg)).mono (by omega)) 4 r.k 0 1).mono ?_
        rintro e w3 ⟨rfl, hy⟩
        have H3 := Lib.hid hy
        clear hy k0 k1 k2 k3 k4 k5 H2A H2
        have q0 : w3.cell? ⟨b.g, 22, none⟩ = some (goneV r.q) := H3.out.cell 22 _ (fun _ _ => rfl)
        rw [HQ.out] at q0
        go_wp2_with fail
        go_at_call 77
        refine (removed_act H3.out).mono ?_
        rintro e w4 ⟨rfl, hy⟩
        have H4 := Lib.hid hy
        clear hy
        (try clear q0)
        go_wp2_with fail
        go_end0
        exact ⟨rfl, H4.out⟩
      · rw [show leaveA S r = (say (swS S r 0 r.wg (leaveW r.wg)) r 4 r.k 0 0, proceedR { r with n := IntKind.i64.wrap (r.n + 1) }) by unfold leaveA goneR; rw [hz, if_neg h4, hq]; rfl]
        have HQ : Hid (goneV r.q = fnV 77) := by show _ = _; unfold goneV; rw [if_neg (by intro e; rw [e] at hq; cases hq), hq]; rfl
        have HQ4 : Hid ((r.q == 4) = false) := by show _ = _; simpa using h4
        have HZ : Hid (swapB S.ms 0 r.wg = true) := hz
        clear hz hq h4
        have y0 := H0.out.cell 35 (.int .u64 r.wg) (fun _ _ => rfl)
        clear H hr hF he
        go_enter Tryz.func223, Tryz.ntmps223
        go_wp2_with fail
        go_at_call 269
        refine (leaveG HF.out.wg _ (H0.out.env HE.out)).mono ?_
        rintro e w1 ⟨rfl, hy⟩
        have H1 := Lib.hid (H0.out.next hy)
        clear hy H0 y0
        go_wp2_with fail
        have HSW := Lib.hid (swapGate_any H1.out (HR.out.mono (by omega)) _ HN.out)
        rw [HZ.out] at HSW
        go_at_call 111
        refine HSW.out.mono ?_
        rintro e w2 ⟨rfl, hy⟩
        have H2 := Lib.hid hy
        clear hy HSW H1
        have k0 := H2.out.cell 25 (.int .u32 (r.k.a : Int)) (fun _ _ => rfl)
        have k1 := H2.out.cell 26 (.int .u32 (r.k.b : Int)) (fun _ _ => rfl)
        have k2 := H2.out.cell 27 (.int .u16 (r.k.p : Int)) (fun _ _ => rfl)
        have k3 := H2.out.cell 28 (.int .u16 (r.k.q : Int)) (fun _ _ => rfl)
        have k4 := H2.out.cell 29 (.int .u8 (r.k.r : Int)) (fun _ _ => rfl)
        have k5 : (w2.alloc (.cells #[.int .i64 4, .int .i64 0, .int .i64 0, .int .u32 (r.k.a : Int), .int .u32 (r.k.b : Int), .int .u16 (r.k.p : Int), .int .u16 (r.k.q : Int), .int .u8 (r.k.r : Int), .int .i64 0, .int .i64 0] 89)).cell? ⟨b.g, 20, none⟩ = some (.bool (r.q == 4)) := (H2.out.alloc _).cell 20 _ (fun _ _ => rfl)
        rw [HQ4.out] at k5
        have H2A := Lib.hid (H2.out.alloc (.cells #[.int .i64 4, .int .i64 0, .int .i64 0, .int .u32 (r.k.a : Int), .int .u32 (r.k.b : Int), .int .u16 (r.k.p : Int), .int .u16 (r.k.q : Int), .int .u8 (r.k.r : Int), .int .i64 0, .int .i64 0] 89))
        go_wp2_with fail
        go_at_call 44
        refine (record_any H2A.out ((HR.out.sw 0 r.wg (leaveW r.wg)).mono (by omega)) 4 r.k 0 0).mono ?_
        rintro e w3 ⟨rfl, hy⟩
        have H3 := Lib.hid hy
        clear hy k0 k1 k2 k3 k4 k5 H2A H2
        have q0 : w3.cell? ⟨b.g, 22, none⟩ = some (goneV r.q) := H3.out.cell 22 _ (fun _ _ => rfl)
        rw [HQ.out] at q0
        go_wp2_with fail
        go_at_call 77
        refine (removed_act H3.out).mono ?_
        rintro e w4 ⟨rfl, hy⟩
        have H4 := Lib.hid hy
        clear hy
        (try clear q0)
        go_wp2_with fail
        go_end0
        exact ⟨rfl, H4.out⟩
end
end Pg
end Go.Proofs.YtcockldefmmhbaaGreatDoor
