/- Several texts of this proof in one file, each in its own namespace. -/
import Derived.Test.YtcockldefmmhbaaGreatDoorJ65
import Derived.Test.YtcockldefmmhbaaGreatDoorJ34
/- Layer 21: the acts, a sixth part. (Written by wip/tools/mkPrgN.py.) -/
set_option linter.unusedVariables false
set_option linter.unusedSimpArgs false
set_option maxRecDepth 100000
namespace Go.Proofs.YtcockldefmmhbaaGreatDoor
open Go.ChangeShapes Go.WideShapes Go.ChangeAt Go.RowKit Go.Mtl Go.Lib
namespace Pg
open MemM (Ms lookV loadS swapB swapS holdV lockB lockS unlockS touchS moreS)
open RulM (R)
open MatM (K fst accB)
open AutM (Ke)
open Me (ptr)
open Tb (TAt TM Fw)
section
variable {b : Bs} {W : World} {S : Sh} {r : Rn}
/-- Beside it a slice of rules. -/
def YL (b : Bs) (S : Sh) (r : Rn) (v : Value) (l : List R) (W : World) : Prop := ∃ Om Ot Kf pv lv kv, YR b Om Ot Kf pv lv kv S r W ∧ Lv W Kf v l
theorem YL.next {v : Value} {l : List R} (H : YL b S r v l W) {w' : World} (hb : Below W.heap.size W w') : YL b S r v l w' := by
  obtain ⟨Om, Ot, K, pv, lv, kv, h1, h2⟩ := H
  exact ⟨Om, Ot, K, pv, lv, kv, h1.next hb, h2.only (Only.of_below (O := fun _ => False) hb) fun _ _ e => e⟩
theorem YL.y {v : Value} {l : List R} (H : YL b S r v l W) : Y b S r W := by
  obtain ⟨Om, Ot, K, pv, lv, kv, h1, h2⟩ := H
  exact ⟨Om, Ot, K, pv, lv, kv, h1⟩
theorem Y.rules (H : Y b S r W) (i : Int) : ∃ v, (Instr.lookup 81 (.map (some b.rm)) (.int .i64 i) false).run Tryz.prog W = .ok v W ∧ YL b S r v (S.rl i) W := by
  obtain ⟨Om, Ot, K, pv, lv, kv, h⟩ := H
  obtain ⟨v, h1, h2⟩ := h.map.look i
  exact ⟨v, h1, Om, Ot, K, pv, lv, kv, h, h2⟩
theorem readRules_any (H : Y b S r W) (hr : Rm 1 S) (hF : Fit b.C S r) (he : Env b.w0) : Calls Tryz.prog 147 #[ptr b.g] W fun e w' => ∃ v, e = .returned v ∧ YL b (readS b.C S r) r v (S.rl (vG r.wg)) w' := by
  have HR := Lib.hid hr
  have HF := Lib.hid hF
  have HE := Lib.hid he
  have H0 := Lib.hid H
  have HL : Hid (S.ms.ls.length ≤ 1000000000000) := (hr.mono (Nat.zero_le _)).l
  have hv0 := (fitG hF.wg).v0
  have hv1 := (fitG hF.wg).v1
  have HVG : Hid (0 ≤ vG r.wg ∧ vG r.wg ≤ 4096) := by show _ ∧ _; omega
  have y0 := H.cell 35 (.int .u64 r.wg) (fun _ _ => rfl)
  clear H hr hF he hv0 hv1
  go_enter Tryz.func147, Tryz.ntmps147
  go_wp2_with fail
  go_at_call 46
  refine (unpackG HF.out.wg _ (H0.out.env HE.out)).mono ?_
  rintro e w1 ⟨rfl, hy⟩
  have H1 := Lib.hid (H0.out.next hy)
  clear hy H0 y0
  have q0 := gate_v (vG r.wg) (kG r.wg) (cG r.wg)
  go_wp2_with fail
  clear q0
  refine wp_region_held_drew (S := fun w' => w'.cell? ⟨b.g, 0, none⟩ = some (ptr b.B) ∧ w'.cell? ⟨b.B, 18, none⟩ = some (ptr b.mb) ∧ w'.cell? ⟨b.g, 1, none⟩ = some (.int .i64 r.t)) (by kernel_rfl) (⟨H1.out.drew.cell 0 (ptr b.B) (fun _ _ => rfl), H1.out.drew.shared 18 (ptr b.mb) (fun _ => rfl), H1.out.drew.cell 1 (.int .i64 r.t) (fun _ _ => rfl)⟩) (fun hH => ?_)
  refine wpAnyH_take (i := 0) (oi := ⟨some 10, _, _, _, _, _⟩) (v := ?v1) rfl (by kernel_rfl) (by kernel_rfl) (by kernel_rfl) (fun _ _ _ h => h) (Or.inl ⟨rfl, ?c1⟩) hH ?r1
  case c1 => (intro w' _; go_simp; (try with_reducible rfl))
  try simp only [Act.put, List.setIfInBounds_toArray, List.set_cons_zero, List.set_cons_succ]
  refine wpAnyH_take (i := 1) (oi := ⟨some 11, _, _, _, _, _⟩) (v := ?v2) rfl (by kernel_rfl) (by kernel_rfl) (by kernel_rfl) (fun _ _ _ h => h) (Or.inl ⟨rfl, ?c2⟩) hH ?r2
  case c2 => (intro w' _; go_simp; (try with_reducible rfl))
  try simp only [Act.put, List.setIfInBounds_toArray, List.set_cons_zero, List.set_cons_succ]
  refine wpAnyH_take (i := 2) (oi := ⟨some 12, _, _, _, _, _⟩) (v := ?v3) rfl (by kernel_rfl) (by kernel_rfl) (by kernel_rfl) (fun _ _ _ h => h) (Or.inl ⟨rfl, ?c3⟩) hH ?r3
  case c3 => (intro w' _; go_simp; (try with_reducible rfl))
  try simp only [Act.put, List.setIfInBounds_toArray, List.set_cons_zero, List.set_cons_succ]
  refine wpAnyH_take (i := 3) (oi := ⟨some 13, _, _, _, _, _⟩) (v := ?v4) rfl (by kernel_rfl) (by kernel_rfl) (by kernel_rfl) (fun _ _ _ h => h) (Or.inl ⟨rfl, ?c4⟩) hH ?r4
  case c4 => (intro w' hS; (try dsimp only at hS); go_simp; (try with_reducible rfl))
  try simp only [Act.put, List.setIfInBounds_toArray, List.set_cons_zero, List.set_cons_succ]
  refine wpAnyH_take (i := 4) (oi := ⟨some 14, _, _, _, _, _⟩) (v := ?v5) rfl (by kernel_rfl) (by kernel_rfl) (by kernel_rfl) (fun _ _ _ h => h) (Or.inl ⟨rfl, ?c5⟩) hH ?r5
  case c5 => (intro w' _; go_simp; (try with_reducible rfl))
  try simp only [Act.put, List.setIfInBounds_toArray, List.set_cons_zero, List.set_cons_succ]
  refine wpAnyH_take (i := 5) (oi := ⟨some 15, _, _, _, _, _⟩) (v := ?v6) rfl (by kernel_rfl) (by kernel_rfl) (by kernel_rfl) (fun _ _ _ h => h) (Or.inl ⟨rfl, ?c6⟩) hH ?r6
  case c6 => (intro w' _; go_simp; (try with_reducible rfl))
  try simp only [Act.put, List.setIfInBounds_toArray, List.set_cons_zero, List.set_cons_succ]
  refine wpAnyH_take (i := 6) (oi := ⟨some 16, _, _, _, _, _⟩) (v := ?v7) rfl (by kernel_rfl) (by kernel_rfl) (by kernel_rfl) (fun _ _ _ h => h) (Or.inl ⟨rfl, ?c7⟩) hH ?r7
  case c7 => (intro w' hS; (try dsimp only at hS); go_simp; (try with_reducible rfl))
  try simp only [Act.put, List.setIfInBounds_toArray, List.set_cons_zero, List.set_cons_succ]
  refine wpAnyH_take (i := 7) (oi := ⟨some 17, _, _, _, _, _⟩) (v := ?v8) rfl (by kernel_rfl) (by kernel_rfl) (by kernel_rfl) (fun _ _ _ h => h) (Or.inl ⟨rfl, ?c8⟩) hH ?r8
  case c8 => (intro w' _; go_simp; (try with_reducible rfl))
  try simp only [Act.put, List.setIfInBounds_toArray, List.set_cons_zero, List.set_cons_succ]
  refine wpAnyH_take (i := 8) (oi := ⟨some 18, _, _, _, _, _⟩) (v := ?v9) rfl (by kernel_rfl) (by kernel_rfl) (by kernel_rfl) (fun _ _ _ h => h) (Or.inl ⟨rfl, ?c9⟩) hH ?r9
  case c9 => (intro w' _; go_simp; (try with_reducible rfl))
  try simp only [Act.put, List.setIfInBounds_toArray, List.set_cons_zero, List.set_cons_succ]
  refine wpAnyH_take (i := 9) (oi := ⟨some 19, _, _, _, _, _⟩) (v := ?v10) rfl (by kernel_rfl) (by kernel_rfl) (by kernel_rfl) (fun _ _ _ h => h) (Or.inl ⟨rfl, ?c10⟩) hH ?r10
  case c10 => (intro w' _; go_simp; (try with_reducible rfl))
  try simp only [Act.put, List.setIfInBounds_toArray, List.set_cons_zero, List.set_cons_succ]
  refine wpAnyH_take (i := 10) (oi := ⟨some 20, _, _, _, _, _⟩) (v := ?v11) rfl (by kernel_rfl) (by kernel_rfl) (by kernel_rfl) (fun _ _ _ h => h) (Or.inl ⟨rfl, ?c11⟩) hH ?r11
  case c11 => (intro w' hS; (try dsimp only at hS); go_simp; (try with_reducible rfl))
  try simp only [Act.put, List.setIfInBounds_toArray, List.set_cons_zero, List.set_cons_succ]
  refine wpAnyH_take (i := 11) (oi := ⟨some 21, _, _, _, _, _⟩) (v := ?v12) rfl (by kernel_rfl) (by kernel_rfl) (by kernel_rfl) (fun _ _ _ h => h) (Or.inl ⟨rfl, ?c12⟩) hH ?r12
  case c12 => (intro w' _; go_simp; (try with_reducible rfl))
  try simp only [Act.put, List.setIfInBounds_toArray, List.set_cons_zero, List.set_cons_succ]
  refine wpAnyH_take (i := 12) (oi := ⟨some 22, _, _, _, _, _⟩) (v := ?v13) rfl (by kernel_rfl) (by kernel_rfl) (by kernel_rfl) (fun _ _ _ h => h) (Or.inl ⟨rfl, ?c13⟩) hH ?r13
  case c13 => (intro w' _; go_simp; (try with_reducible rfl))
  try simp only [Act.put, List.setIfInBounds_toArray, List.set_cons_zero, List.set_cons_succ]
  refine wpAnyH_take (i := 13) (oi := ⟨some 23, _, _, _, _, _⟩) (v := ?v14) rfl (by kernel_rfl) (by kernel_rfl) (by kernel_rfl) (fun _ _ _ h => h) (Or.inl ⟨rfl, ?c14⟩) hH ?r14
  case c14 => (intro w' _; go_simp; (try with_reducible rfl))
  try simp only [Act.put, List.setIfInBounds_toArray, List.set_cons_zero, List.set_cons_succ]
  refine wpAnyH_take (i := 14) (oi := ⟨some 24, _, _, _, _, _⟩) (v := ?v15) rfl (by kernel_rfl) (by kernel_rfl) (by kernel_rfl) (fun _ _ _ h => h) (Or.inl ⟨rfl, ?c15⟩) hH ?r15
  case c15 => (intro w' hS; (try dsimp only at hS); go_simp; (try with_reducible rfl))
  try simp only [Act.put, List.setIfInBounds_toArray, List.set_cons_zero, List.set_cons_succ]
  refine wpAnyH_take (i := 15) (oi := ⟨some 25, _, _, _, _, _⟩) (v := ?v16) rfl (by kernel_rfl) (by kernel_rfl) (by kernel_rfl) (fun _ _ _ h => h) (Or.inl ⟨rfl, ?c16⟩) hH ?r16
  case c16 => (intro w' _; go_simp; (try with_reducible rfl))
  try simp only [Act.put, List.setIfInBounds_toArray, List.set_cons_zero, List.set_cons_succ]
  refine wpAnyH_ready (rs := [16]) (by kernel_rfl) (by simp) (AllReadyH.cons rfl (fun K hK => ?_) (AllReadyH.nil))
  go_simp
  go_at_call 166
  refine (rulesPlace_any H1.out.drew HF.out.cn (vG r.wg) HVG.out).mono ?_
  rintro e w2 ⟨rfl, hy⟩
  refine hK.out _ _ (⟨hy.cell 0 (ptr b.B) (fun _ _ => rfl), hy.shared 18 (ptr b.mb) (fun _ => rfl), hy.cell 1 (.int .i64 r.t) (fun _ _ => rfl)⟩) (fun hH => ?_)
  clear hK K
  have H2 := Lib.hid hy
  clear hy H1
  try simp only [Act.put, List.setIfInBounds_toArray, List.set_cons_zero, List.set_cons_succ]
  refine wpAnyH_ready (rs := [17]) (by kernel_rfl) (by simp) (AllReadyH.cons rfl (fun K hK => ?_) (AllReadyH.nil))
  go_simp
  go_at_call 174
  refine (H2.out.does (fun Om h => Me.read_any h r.t ((b.C.n : Int) + vG r.wg) HL.out)).mono ?_
  rintro e w3 ⟨rfl, hy⟩
  refine hK.out _ _ (⟨hy.cell 0 (ptr b.B) (fun _ _ => rfl), hy.shared 18 (ptr b.mb) (fun _ => rfl), hy.cell 1 (.int .i64 r.t) (fun _ _ => rfl)⟩) (fun hH => ?_)
  clear hK K
  have H3 := Lib.hid hy
  clear hy H2
  try simp only [Act.put, List.setIfInBounds_toArray, List.set_cons_zero, List.set_cons_succ]
  refine wpAnyH_done (by kernel_rfl) ?_ _
  clear hH
  obtain ⟨v, hlk, hyl⟩ := H3.out.rules (vG r.wg)
  have H4 := Lib.hid hyl
  have z0 := H3.out.cell 0 (ptr b.B) (fun _ _ => rfl)
  have z1 := H3.out.shared 20 (.map (some b.rm)) (fun _ => rfl)
  obtain ⟨A, n, c, rfl⟩ : ∃ A n c, v = .slice A n c := by
    obtain ⟨Om, Ot, K, pv, lv, kv, _, ⟨A, c, e, _⟩, _⟩ := hyl
    exact ⟨A, _, c, e⟩
  clear hyl H3
  go_wp2_with fail
  go_ret
  exact ⟨_, rfl, H4.out⟩
set_option maxHeartbeats 4000000 in
theorem admit_any {l : List R} {v : Value} (H : YL b S r v l W) (hF : Fit b.C S r) (he : Env b.w0) : Calls Tryz.prog 146 #[ptr b.g, v] W (Yd b (.int .i64 (admitV b.C r l)) S (if admitV b.C r l = 1 then { r with tn := opN r } else r)) := by
  obtain ⟨A, n, c, rfl, hn, hm⟩ : ∃ A n c, v = .slice A n c ∧ l.length = n ∧ n ≤ maxLen := by
    obtain ⟨Om, Ot, K, pv, lv, kv, _, ⟨A, c, e, h1, h2, _⟩, _⟩ := H
    exact ⟨A, _, c, e, rfl, Nat.le_trans h1 h2⟩
  have HF := Lib.hid hF
  have HE := Lib.hid he
  have HFI : Hid (Calls Tryz.prog 195 #[.slice A n c, .agg #[.int .u8 (r.p.pr : Int), .int .u32 (r.p.sr : Int), .int .u32 (r.p.ds : Int), .int .u16 (r.p.sp : Int), .int .u16 (r.p.dp : Int), .int .u8 (r.p.fl : Int), .int .u8 (r.p.kd : Int)]] W fun e w' => e = .returned (.tuple #[.int .i64 (MatM.idxI (fst r.p l)), .bool (accB l (fst r.p l))]) ∧ Below W.heap.size W w') := by
    obtain ⟨Om, Ot, K, pv, lv, kv, _, h1, _, h2⟩ := H
    exact Ma.first_any A n c l r.p hF.p W hn h1 h2 hm
  have HOP := Lib.hid (fun W => Fs.open_any (r.p.pr : Int) (r.p.sr : Int) (r.p.ds : Int) (r.p.sp : Int) (r.p.dp : Int) (r.p.fl : Int) (r.p.kd : Int) (by have := hF.p.fl; omega) W)
  have HEN := Lib.hid (fun W he => enterG hF.wg b.C.N W he)
  have H0 := Lib.hid H.y
  obtain ⟨ix, hix⟩ : ∃ z, MatM.idxI (fst r.p l) = z := ⟨_, rfl⟩
  rw [hix] at HFI
  have k0 := H0.out.cell 12 (.int .u8 (r.p.pr : Int)) (fun _ _ => rfl)
  have k1 := H0.out.cell 13 (.int .u32 (r.p.sr : Int)) (fun _ _ => rfl)
  have k2 := H0.out.cell 14 (.int .u32 (r.p.ds : Int)) (fun _ _ => rfl)
  have k3 := H0.out.cell 15 (.int .u16 (r.p.sp : Int)) (fun _ _ => rfl)
  have k4 := H0.out.cell 16 (.int .u16 (r.p.dp : Int)) (fun _ _ => rfl)
  have k5 := H0.out.cell 17 (.int .u8 (r.p.fl : Int)) (fun _ _ => rfl)
  have k6 := H0.out.cell 18 (.int .u8 (r.p.kd : Int)) (fun _ _ => rfl)
  clear H he hix hm hn
  cases ha : accB l (fst r.p l)
  · have hv : admitV b.C r l = 3 := by unfold admitV; rw [ha]; rfl
    rw [hv, if_neg (by omega)]
    rw [ha] at HFI
    clear hv ha hF
    go_enter Tryz.func146, Tryz.ntmps146
    go_wp2_with fail
    go_at_call 195
    refine HFI.out.mono ?_
    rintro e w1 ⟨rfl, hy⟩
    have H1 := Lib.hid (H0.out.next hy)
    clear hy k0 k1 k2 k3 k4 k5 k6 H0 HFI
    go_wp2_with fail
    go_ret
    exact ⟨rfl, H1.out⟩
  · cases hb : opB r
    · have hv : admitV b.C r l = 4 := by unfold admitV; rw [ha, hb]; rfl
      rw [hv, if_neg (by omega)]
      rw [ha] at HFI
      rw [show Fs.opB (r.p.pr : Int) (r.p.fl : Int) (r.p.kd : Int) = false from hb] at HOP
      clear hv ha hb hF
      go_enter Tryz.func146, Tryz.ntmps146
      go_wp2_with fail
      go_at_call 195
      refine HFI.out.mono ?_
      rintro e w1 ⟨rfl, hy⟩
      have H1 := Lib.hid (H0.out.next hy)
      clear hy k0 k1 k2 k3 k4 k5 k6 H0 HFI
      have k0 := H1.out.cell 12 (.int .u8 (r.p.pr : Int)) (fun _ _ => rfl)
      have k1 := H1.out.cell 13 (.int .u32 (r.p.sr : Int)) (fun _ _ => rfl)
      have k2 := H1.out.cell 14 (.int .u32 (r.p.ds : Int)) (fun _ _ => rfl)
      have k3 := H1.out.cell 15 (.int .u16 (r.p.sp : Int)) (fun _ _ => rfl)
      have k4 := H1.out.cell 16 (.int .u16 (r.p.dp : Int)) (fun _ _ => rfl)
      have k5 := H1.out.cell 17 (.int .u8 (r.p.fl : Int)) (fun _ _ => rfl)
      have k6 := H1.out.cell 18 (.int .u8 (r.p.kd : Int)) (fun _ _ => rfl)
      go_wp2_with fail
      go_at_call 196
      refine (HOP.out _).mono ?_
      rintro e w2 ⟨rfl, hy⟩
      have H2 := Lib.hid (H1.out.next hy)
      clear hy k0 k1 k2 k3 k4 k5 k6 H1
      go_wp2_with fail
      go_ret
      exact ⟨rfl, H2.out⟩
    · cases hc : enterB b.C.N r.wg
      · have hv : admitV b.C r l = 5 := by unfold admitV; rw [ha, hb, hc]; rfl
        rw [hv, if_neg (by omega)]
        rw [ha] at HFI
        rw [show Fs.opB (r.p.pr : Int) (r.p.fl : Int) (r.p.kd : Int) = true from hb] at HOP
        have HC : Hid (enterB b.C.N r.wg = false) := hc
        clear hv ha hb hc hF
        obtain ⟨on, hon⟩ : ∃ z, opN r = z := ⟨_, rfl⟩
        rw [show Fs.opN (r.p.pr : Int) (r.p.fl : Int) (r.p.kd : Int) = on from hon] at HOP

        clear hon
        go_enter Tryz.func146, Tryz.ntmps146
        go_wp2_with fail
        go_at_call 195
        refine HFI.out.mono ?_
        rintro e w1 ⟨rfl, hy⟩
        have H1 := Lib.hid (H0.out.next hy)
        clear hy k0 k1 k2 k3 k4 k5 k6 H0 HFI
        have k0 := H1.out.cell 12 (.int .u8 (r.p.pr : Int)) (fun _ _ => rfl)
        have k1 := H1.out.cell 13 (.int .u32 (r.p.sr : Int)) (fun _ _ => rfl)
        have k2 := H1.out.cell 14 (.int .u32 (r.p.ds : Int)) (fun _ _ => rfl)
        have k3 := H1.out.cell 15 (.int .u16 (r.p.sp : Int)) (fun _ _ => rfl)
        have k4 := H1.out.cell 16 (.int .u16 (r.p.dp : Int)) (fun _ _ => rfl)
        have k5 := H1.out.cell 17 (.int .u8 (r.p.fl : Int)) (fun _ _ => rfl)
        have k6 := H1.out.cell 18 (.int .u8 (r.p.kd : Int)) (fun _ _ => rfl)
        go_wp2_with fail
        go_at_call 196
        refine (HOP.out _).mono ?_
        rintro e w2 ⟨rfl, hy⟩
        have H2 := Lib.hid (H1.out.next hy)
        clear hy k0 k1 k2 k3 k4 k5 k6 H1
        go_wp2_with fail
        refine wp_region_held_drew (S := fun w' => w'.cell? ⟨b.g, 35, none⟩ = some (.int .u64 r.wg) ∧ w'.cell? ⟨b.g, 0, none⟩ = some (ptr b.B) ∧ w'.cell? ⟨b.B, 1, none⟩ = some (.int .i64 b.C.N)) (by kernel_rfl) (⟨H2.out.drew.cell 35 (.int .u64 r.wg) (fun _ _ => rfl), H2.out.drew.cell 0 (ptr b.B) (fun _ _ => rfl), H2.out.drew.shared 1 (.int .i64 b.C.N) (fun _ => rfl)⟩) (fun hH => ?_)
        refine wpAnyH_take (i := 0) (oi := ⟨some 33, _, _, _, _, _⟩) (v := ?v1) rfl (by kernel_rfl) (by kernel_rfl) (by kernel_rfl) (fun _ _ _ h => h) (Or.inl ⟨rfl, ?c1⟩) hH ?r1
        case c1 => (intro w' _; go_simp; (try with_reducible rfl))
        try simp only [Act.put, List.setIfInBounds_toArray, List.set_cons_zero, List.set_cons_succ]
        refine wpAnyH_take (i := 1) (oi := ⟨some 34, _, _, _, _, _⟩) (v := ?v2) rfl (by kernel_rfl) (by kernel_rfl) (by kernel_rfl) (fun _ _ _ h => h) (Or.inl ⟨rfl, ?c2⟩) hH ?r2
        case c2 => (intro w' _; go_simp; (try with_reducible rfl))
        try simp only [Act.put, List.setIfInBounds_toArray, List.set_cons_zero, List.set_cons_succ]
        refine wpAnyH_take (i := 2) (oi := ⟨some 35, _, _, _, _, _⟩) (v := ?v3) rfl (by kernel_rfl) (by kernel_rfl) (by kernel_rfl) (fun _ _ _ h => h) (Or.inl ⟨rfl, ?c3⟩) hH ?r3
        case c3 => (intro w' _; go_simp; (try with_reducible rfl))
        try simp only [Act.put, List.setIfInBounds_toArray, List.set_cons_zero, List.set_cons_succ]
        refine wpAnyH_take (i := 3) (oi := ⟨some 36, _, _, _, _, _⟩) (v := ?v4) rfl (by kernel_rfl) (by kernel_rfl) (by kernel_rfl) (fun _ _ _ h => h) (Or.inl ⟨rfl, ?c4⟩) hH ?r4
        case c4 => (intro w' hS; (try dsimp only at hS); go_simp; (try with_reducible rfl))
        try simp only [Act.put, List.setIfInBounds_toArray, List.set_cons_zero, List.set_cons_succ]
        refine wpAnyH_take (i := 4) (oi := ⟨some 37, _, _, _, _, _⟩) (v := ?v5) rfl (by kernel_rfl) (by kernel_rfl) (by kernel_rfl) (fun _ _ _ h => h) (Or.inl ⟨rfl, ?c5⟩) hH ?r5
        case c5 => (intro w' _; go_simp; (try with_reducible rfl))
        try simp only [Act.put, List.setIfInBounds_toArray, List.set_cons_zero, List.set_cons_succ]
        refine wpAnyH_take (i := 5) (oi := ⟨some 38, _, _, _, _, _⟩) (v := ?v6) rfl (by kernel_rfl) (by kernel_rfl) (by kernel_rfl) (fun _ _ _ h => h) (Or.inl ⟨rfl, ?c6⟩) hH ?r6
        case c6 => (intro w' _; go_simp; (try with_reducible rfl))
        try simp only [Act.put, List.setIfInBounds_toArray, List.set_cons_zero, List.set_cons_succ]
        refine wpAnyH_take (i := 6) (oi := ⟨some 39, _, _, _, _, _⟩) (v := ?v7) rfl (by kernel_rfl) (by kernel_rfl) (by kernel_rfl) (fun _ _ _ h => h) (Or.inl ⟨rfl, ?c7⟩) hH ?r7
        case c7 => (intro w' _; go_simp; (try with_reducible rfl))
        try simp only [Act.put, List.setIfInBounds_toArray, List.set_cons_zero, List.set_cons_succ]
        refine wpAnyH_take (i := 7) (oi := ⟨some 40, _, _, _, _, _⟩) (v := ?v8) rfl (by kernel_rfl) (by kernel_rfl) (by kernel_rfl) (fun _ _ _ h => h) (Or.inl ⟨rfl, ?c8⟩) hH ?r8
        case c8 => (intro w' hS; (try dsimp only at hS); go_simp; (try with_reducible rfl))
        try simp only [Act.put, List.setIfInBounds_toArray, List.set_cons_zero, List.set_cons_succ]
        refine wpAnyH_take (i := 8) (oi := ⟨some 41, _, _, _, _, _⟩) (v := ?v9) rfl (by kernel_rfl) (by kernel_rfl) (by kernel_rfl) (fun _ _ _ h => h) (Or.inl ⟨rfl, ?c9⟩) hH ?r9
        case c9 => (intro w' _; go_simp; (try with_reducible rfl))
        try simp only [Act.put, List.setIfInBounds_toArray, List.set_cons_zero, List.set_cons_succ]
        refine wpAnyH_take (i := 9) (oi := ⟨some 42, _, _, _, _, _⟩) (v := ?v10) rfl (by kernel_rfl) (by kernel_rfl) (by kernel_rfl) (fun _ _ _ h => h) (Or.inl ⟨rfl, ?c10⟩) hH ?r10
        case c10 => (intro w' _; go_simp; (try with_reducible rfl))
        try simp only [Act.put, List.setIfInBounds_toArray, List.set_cons_zero, List.set_cons_succ]
        refine wpAnyH_take (i := 10) (oi := ⟨some 43, _, _, _, _, _⟩) (v := ?v11) rfl (by kernel_rfl) (by kernel_rfl) (by kernel_rfl) (fun _ _ _ h => h) (Or.inl ⟨rfl, ?c11⟩) hH ?r11
        case c11 => (intro w' _; go_simp; (try with_reducible rfl))
        try simp only [Act.put, List.setIfInBounds_toArray, List.set_cons_zero, List.set_cons_succ]
        refine wpAnyH_take (i := 11) (oi := ⟨some 44, _, _, _, _, _⟩) (v := ?v12) rfl (by kernel_rfl) (by kernel_rfl) (by kernel_rfl) (fun _ _ _ h => h) (Or.inl ⟨rfl, ?c12⟩) hH ?r12
        case c12 => (intro w' hS; (try dsimp only at hS); go_simp; (try with_reducible rfl))
        try simp only [Act.put, List.setIfInBounds_toArray, List.set_cons_zero, List.set_cons_succ]
        refine wpAnyH_ready (rs := [12]) (by kernel_rfl) (by simp) (AllReadyH.cons rfl (fun K hK => ?_) (AllReadyH.nil))
        go_simp
        go_at_call 197
        refine (HEN.out _ (H2.out.drew.env HE.out)).mono ?_
        rintro e w3 ⟨rfl, hy⟩
        rw [HC.out]
        refine hK.out _ _ (⟨(H2.out.drew.next hy).cell 35 (.int .u64 r.wg) (fun _ _ => rfl), (H2.out.drew.next hy).cell 0 (ptr b.B) (fun _ _ => rfl), (H2.out.drew.next hy).shared 1 (.int .i64 b.C.N) (fun _ => rfl)⟩) (fun hH => ?_)
        clear hK K
        have H3 := Lib.hid (H2.out.drew.next hy)
        clear hy H2
        try simp only [Act.put, List.setIfInBounds_toArray, List.set_cons_zero, List.set_cons_succ]
        refine wpAnyH_take (i := 13) (oi := ⟨some 32, _, _, _, _, _⟩) (v := ?v13) rfl (by kernel_rfl) (by kernel_rfl) (by kernel_rfl) (fun _ _ _ h => h) (Or.inl ⟨rfl, ?c13⟩) hH ?r13
        case c13 => (intro w' _; go_simp; (try with_reducible rfl))
        try simp only [Act.put, List.setIfInBounds_toArray, List.set_cons_zero, List.set_cons_succ]
        refine wpAnyH_take (i := 14) (oi := ⟨some 46, _, _, _, _, _⟩) (v := ?v14) rfl (by kernel_rfl) (by kernel_rfl) (by kernel_rfl) (fun _ _ _ h => h) (Or.inl ⟨rfl, ?c14⟩) hH ?r14
        case c14 => (intro w' _; go_simp; (try with_reducible rfl))
        try simp only [Act.put, List.setIfInBounds_toArray, List.set_cons_zero, List.set_cons_succ]
        refine wpAnyH_take (i := 15) (oi := ⟨some 47, _, _, _, _, _⟩) (v := ?v15) rfl (by kernel_rfl) (by kernel_rfl) (by kernel_rfl) (fun _ _ _ h => h) (Or.inl ⟨rfl, ?c15⟩) hH ?r15
        case c15 => (intro w' _; go_simp; (try with_reducible rfl))
        try simp only [Act.put, List.setIfInBounds_toArray, List.set_cons_zero, List.set_cons_succ]
        refine wpAnyH_take (i := 16) (oi := ⟨some 9, _, _, _, _, _⟩) (v := ?v16) rfl (by kernel_rfl) (by kernel_rfl) (by kernel_rfl) (fun _ _ _ h => h) (Or.inl ⟨rfl, ?c16⟩) hH ?r16
        case c16 => (intro w' _; go_simp; (try with_reducible rfl))
        try simp only [Act.put, List.setIfInBounds_toArray, List.set_cons_zero, List.set_cons_succ]
        refine wpAnyH_take (i := 17) (oi := ⟨some 10, _, _, _, _, _⟩) (v := ?v17) rfl (by kernel_rfl) (by kernel_rfl) (by kernel_rfl) (fun _ _ _ h => h) (Or.inl ⟨rfl, ?c17⟩) hH ?r17
        case c17 => (intro w' _; go_simp; (try with_reducible rfl))
        try simp only [Act.put, List.setIfInBounds_toArray, List.set_cons_zero, List.set_cons_succ]
        refine wpAnyH_done (by kernel_rfl) ?_ _
        clear hH
        go_wp2_with fail
        go_ret
        exact ⟨rfl, H3.out⟩
      · have hv : admitV b.C r l = 1 := by unfold admitV; rw [ha, hb, hc]; rfl
        rw [hv, if_pos rfl]
        rw [ha] at HFI
        rw [show Fs.opB (r.p.pr : Int) (r.p.fl : Int) (r.p.kd : Int) = true from hb] at HOP
        have HC : Hid (enterB b.C.N r.wg = true) := hc
        clear hv ha hb hc hF
        obtain ⟨on, hon⟩ : ∃ z, opN r = z := ⟨_, rfl⟩
        rw [show Fs.opN (r.p.pr : Int) (r.p.fl : Int) (r.p.kd : Int) = on from hon] at HOP
        rw [hon]
        clear hon
        go_enter Tryz.func146, Tryz.ntmps146
        go_wp2_with fail
        go_at_call 195
        refine HFI.out.mono ?_
        rintro e w1 ⟨rfl, hy⟩
        have H1 := Lib.hid (H0.out.next hy)
        clear hy k0 k1 k2 k3 k4 k5 k6 H0 HFI
        have k0 := H1.out.cell 12 (.int .u8 (r.p.pr : Int)) (fun _ _ => rfl)
        have k1 := H1.out.cell 13 (.int .u32 (r.p.sr : Int)) (fun _ _ => rfl)
        have k2 := H1.out.cell 14 (.int .u32 (r.p.ds : Int)) (fun _ _ => rfl)
        have k3 := H1.out.cell 15 (.int .u16 (r.p.sp : Int)) (fun _ _ => rfl)
        have k4 := H1.out.cell 16 (.int .u16 (r.p.dp : Int)) (fun _ _ => rfl)
        have k5 := H1.out.cell 17 (.int .u8 (r.p.fl : Int)) (fun _ _ => rfl)
        have k6 := H1.out.cell 18 (.int .u8 (r.p.kd : Int)) (fun _ _ => rfl)
        go_wp2_with fail
        go_at_call 196
        refine (HOP.out _).mono ?_
        rintro e w2 ⟨rfl, hy⟩
        have H2 := Lib.hid (H1.out.next hy)
        clear hy k0 k1 k2 k3 k4 k5 k6 H1
        go_wp2_with fail
        refine wp_region_held_drew (S := fun w' => w'.cell? ⟨b.g, 35, none⟩ = some (.int .u64 r.wg) ∧ w'.cell? ⟨b.g, 0, none⟩ = some (ptr b.B) ∧ w'.cell? ⟨b.B, 1, none⟩ = some (.int .i64 b.C.N)) (by kernel_rfl) (⟨H2.out.drew.cell 35 (.int .u64 r.wg) (fun _ _ => rfl), H2.out.drew.cell 0 (ptr b.B) (fun _ _ => rfl), H2.out.drew.shared 1 (.int .i64 b.C.N) (fun _ => rfl)⟩) (fun hH => ?_)
        refine wpAnyH_take (i := 0) (oi := ⟨some 33, _, _, _, _, _⟩) (v := ?v18) rfl (by kernel_rfl) (by kernel_rfl) (by kernel_rfl) (fun _ _ _ h => h) (Or.inl ⟨rfl, ?c18⟩) hH ?r18
        case c18 => (intro w' _; go_simp; (try with_reducible rfl))
        try simp only [Act.put, List.setIfInBounds_toArray, List.set_cons_zero, List.set_cons_succ]
        refine wpAnyH_take (i := 1) (oi := ⟨some 34, _, _, _, _, _⟩) (v := ?v19) rfl (by kernel_rfl) (by kernel_rfl) (by kernel_rfl) (fun _ _ _ h => h) (Or.inl ⟨rfl, ?c19⟩) hH ?r19
        case c19 => (intro w' _; go_simp; (try with_reducible rfl))
        try simp only [Act.put, List.setIfInBounds_toArray, List.set_cons_zero, List.set_cons_succ]
        refine wpAnyH_take (i := 2) (oi := ⟨some 35, _, _, _, _, _⟩) (v := ?v20) rfl (by kernel_rfl) (by kernel_rfl) (by kernel_rfl) (fun _ _ _ h => h) (Or.inl ⟨rfl, ?c20⟩) hH ?r20
        case c20 => (intro w' _; go_simp; (try with_reducible rfl))
        try simp only [Act.put, List.setIfInBounds_toArray, List.set_cons_zero, List.set_cons_succ]
        refine wpAnyH_take (i := 3) (oi := ⟨some 36, _, _, _, _, _⟩) (v := ?v21) rfl (by kernel_rfl) (by kernel_rfl) (by kernel_rfl) (fun _ _ _ h => h) (Or.inl ⟨rfl, ?c21⟩) hH ?r21
        case c21 => (intro w' hS; (try dsimp only at hS); go_simp; (try with_reducible rfl))
        try simp only [Act.put, List.setIfInBounds_toArray, List.set_cons_zero, List.set_cons_succ]
        refine wpAnyH_take (i := 4) (oi := ⟨some 37, _, _, _, _, _⟩) (v := ?v22) rfl (by kernel_rfl) (by kernel_rfl) (by kernel_rfl) (fun _ _ _ h => h) (Or.inl ⟨rfl, ?c22⟩) hH ?r22
        case c22 => (intro w' _; go_simp; (try with_reducible rfl))
        try simp only [Act.put, List.setIfInBounds_toArray, List.set_cons_zero, List.set_cons_succ]
        refine wpAnyH_take (i := 5) (oi := ⟨some 38, _, _, _, _, _⟩) (v := ?v23) rfl (by kernel_rfl) (by kernel_rfl) (by kernel_rfl) (fun _ _ _ h => h) (Or.inl ⟨rfl, ?c23⟩) hH ?r23
        case c23 => (intro w' _; go_simp; (try with_reducible rfl))
        try simp only [Act.put, List.setIfInBounds_toArray, List.set_cons_zero, List.set_cons_succ]
        refine wpAnyH_take (i := 6) (oi := ⟨some 39, _, _, _, _, _⟩) (v := ?v24) rfl (by kernel_rfl) (by kernel_rfl) (by kernel_rfl) (fun _ _ _ h => h) (Or.inl ⟨rfl, ?c24⟩) hH ?r24
        case c24 => (intro w' _; go_simp; (try with_reducible rfl))
        try simp only [Act.put, List.setIfInBounds_toArray, List.set_cons_zero, List.set_cons_succ]
        refine wpAnyH_take (i := 7) (oi := ⟨some 40, _, _, _, _, _⟩) (v := ?v25) rfl (by kernel_rfl) (by kernel_rfl) (by kernel_rfl) (fun _ _ _ h => h) (Or.inl ⟨rfl, ?c25⟩) hH ?r25
        case c25 => (intro w' hS; (try dsimp only at hS); go_simp; (try with_reducible rfl))
        try simp only [Act.put, List.setIfInBounds_toArray, List.set_cons_zero, List.set_cons_succ]
        refine wpAnyH_take (i := 8) (oi := ⟨some 41, _, _, _, _, _⟩) (v := ?v26) rfl (by kernel_rfl) (by kernel_rfl) (by kernel_rfl) (fun _ _ _ h => h) (Or.inl ⟨rfl, ?c26⟩) hH ?r26
        case c26 => (intro w' _; go_simp; (try with_reducible rfl))
        try simp only [Act.put, List.setIfInBounds_toArray, List.set_cons_zero, List.set_cons_succ]
        refine wpAnyH_take (i := 9) (oi := ⟨some 42, _, _, _, _, _⟩) (v := ?v27) rfl (by kernel_rfl) (by kernel_rfl) (by kernel_rfl) (fun _ _ _ h => h) (Or.inl ⟨rfl, ?c27⟩) hH ?r27
        case c27 => (intro w' _; go_simp; (try with_reducible rfl))
        try simp only [Act.put, List.setIfInBounds_toArray, List.set_cons_zero, List.set_cons_succ]
        refine wpAnyH_take (i := 10) (oi := ⟨some 43, _, _, _, _, _⟩) (v := ?v28) rfl (by kernel_rfl) (by kernel_rfl) (by kernel_rfl) (fun _ _ _ h => h) (Or.inl ⟨rfl, ?c28⟩) hH ?r28
        case c28 => (intro w' _; go_simp; (try with_reducible rfl))
        try simp only [Act.put, List.setIfInBounds_toArray, List.set_cons_zero, List.set_cons_succ]
        refine wpAnyH_take (i := 11) (oi := ⟨some 44, _, _, _, _, _⟩) (v := ?v29) rfl (by kernel_rfl) (by kernel_rfl) (by kernel_rfl) (fun _ _ _ h => h) (Or.inl ⟨rfl, ?c29⟩) hH ?r29
        case c29 => (intro w' hS; (try dsimp only at hS); go_simp; (try with_reducible rfl))
        try simp only [Act.put, List.setIfInBounds_toArray, List.set_cons_zero, List.set_cons_succ]
        refine wpAnyH_ready (rs := [12]) (by kernel_rfl) (by simp) (AllReadyH.cons rfl (fun K hK => ?_) (AllReadyH.nil))
        go_simp
        go_at_call 197
        refine (HEN.out _ (H2.out.drew.env HE.out)).mono ?_
        rintro e w3 ⟨rfl, hy⟩
        rw [HC.out]
        refine hK.out _ _ (⟨(H2.out.drew.next hy).cell 35 (.int .u64 r.wg) (fun _ _ => rfl), (H2.out.drew.next hy).cell 0 (ptr b.B) (fun _ _ => rfl), (H2.out.drew.next hy).shared 1 (.int .i64 b.C.N) (fun _ => rfl)⟩) (fun hH => ?_)
        clear hK K
        have H3 := Lib.hid (H2.out.drew.next hy)
        clear hy H2
        try simp only [Act.put, List.setIfInBounds_toArray, List.set_cons_zero, List.set_cons_succ]
        refine wpAnyH_take (i := 13) (oi := ⟨some 32, _, _, _, _, _⟩) (v := ?v30) rfl (by kernel_rfl) (by kernel_rfl) (by kernel_rfl) (fun _ _ _ h => h) (Or.inl ⟨rfl, ?c30⟩) hH ?r30
        case c30 => (intro w' _; go_simp; (try with_reducible rfl))
        try simp only [Act.put, List.setIfInBounds_toArray, List.set_cons_zero, List.set_cons_succ]
        refine wpAnyH_take (i := 14) (oi := ⟨some 46, _, _, _, _, _⟩) (v := ?v31) rfl (by kernel_rfl) (by kernel_rfl) (by kernel_rfl) (fun _ _ _ h => h) (Or.inl ⟨rfl, ?c31⟩) hH ?r31
        case c31 => (intro w' _; go_simp; (try with_reducible rfl))
        try simp only [Act.put, List.setIfInBounds_toArray, List.set_cons_zero, List.set_cons_succ]
        refine wpAnyH_take (i := 15) (oi := ⟨some 47, _, _, _, _, _⟩) (v := ?v32) rfl (by kernel_rfl) (by kernel_rfl) (by kernel_rfl) (fun _ _ _ h => h) (Or.inl ⟨rfl, ?c32⟩) hH ?r32
        case c32 => (intro w' _; go_simp; (try with_reducible rfl))
        try simp only [Act.put, List.setIfInBounds_toArray, List.set_cons_zero, List.set_cons_succ]
        refine wpAnyH_take (i := 16) (oi := ⟨some 9, _, _, _, _, _⟩) (v := ?v33) rfl (by kernel_rfl) (by kernel_rfl) (by kernel_rfl) (fun _ _ _ h => h) (Or.inl ⟨rfl, ?c33⟩) hH ?r33
        case c33 => (intro w' _; go_simp; (try with_reducible rfl))
        try simp only [Act.put, List.setIfInBounds_toArray, List.set_cons_zero, List.set_cons_succ]
        refine wpAnyH_take (i := 17) (oi := ⟨some 10, _, _, _, _, _⟩) (v := ?v34) rfl (by kernel_rfl) (by kernel_rfl) (by kernel_rfl) (fun _ _ _ h => h) (Or.inl ⟨rfl, ?c34⟩) hH ?r34
        case c34 => (intro w' _; go_simp; (try with_reducible rfl))
        try simp only [Act.put, List.setIfInBounds_toArray, List.set_cons_zero, List.set_cons_succ]
        refine wpAnyH_done (by kernel_rfl) ?_ _
        clear hH
        have HS := Lib.hid (H3.out.set (r' := { r with tn := on }) 32 (.int .i64 on) (fun _ _ => rfl) rfl rfl)
        have q0 := H3.out.frozen 32
        have q1 := H3.out.cell 32 (.int .i64 r.tn) (fun _ _ => rfl)
        clear H3
        go_wp2_with fail
        go_ret
        exact ⟨rfl, HS.out⟩
set_option maxHeartbeats 4000000 in
theorem absent_act (H : Y b S r W) (hr : Rm 9 S) (hF : Fit b.C S r) (he : Env b.w0) : Calls Tryz.prog 106 #[ptr b.g] W (Yd b U ((absentA b.C S r).1) ((absentA b.C S r).2)) := by
  have HR := Lib.hid hr
  have HF := Lib.hid hF
  have HE := Lib.hid he
  have H0 := Lib.hid H
  have HW := Lib.hid (H.word 0)
  have HF1 : Hid (Fit b.C (ldS S r 0) (ldG S r)) := ⟨hF.wf, HW.out, hF.wc, hF.k, hF.p, hF.st, hF.cn, hF.cT, hF.z, hF.mr, hF.q, hF.tt⟩
  have HF2 : Hid (Fit b.C (readS b.C (ldS S r 0) (ldG S r)) (ldG S r)) := ⟨hF.wf, HW.out, hF.wc, hF.k, hF.p, hF.st, hF.cn, hF.cT, hF.z, hF.mr, hF.q, hF.tt⟩
  have HRM : Hid (Rm 6 (readS b.C (ldS S r 0) (ldG S r))) := (hr.ld 0 |>.touch (r := ldG S r) 5 _).mono (by omega)
  obtain ⟨av, hav⟩ : ∃ z, admitV b.C (ldG S r) (S.rl (vG (lookV S.ms 0))) = z := ⟨_, rfl⟩
  by_cases h1 : av = 1
  · subst h1
    rw [show absentA b.C S r = (readS b.C (ldS S r 0) (ldG S r), { ldG S r with tn := opN (ldG S r), at_ := .enter }) by unfold absentA absentR; rw [show admitV b.C (ldG S r) ((ldS S r 0).rl (vG (ldG S r).wg)) = 1 from hav, if_pos rfl]]
    have HAV : Hid (admitV b.C (ldG S r) ((ldS S r 0).rl (vG (ldG S r).wg)) = 1) := hav
    clear hav H hr hF he
    go_enter Tryz.func106, Tryz.ntmps106
    go_wp2_with fail
    go_at_call 71
    refine (loadGate_any H0.out (HR.out.mono (by omega))).mono ?_
    rintro e w1 ⟨rfl, hy⟩
    have H1 := Lib.hid hy
    clear hy H0
    go_wp2_with fail
    go_at_call 147
    refine (readRules_any H1.out ((HR.out.ld 0).mono (by omega)) HF1.out HE.out).mono ?_
    rintro e w2 ⟨v, rfl, hy⟩
    have H2 := Lib.hid hy
    clear hy H1
    go_wp2_with fail
    have HAD := Lib.hid (admit_any H2.out HF2.out HE.out)
    rw [HAV.out] at HAD
    go_at_call 146
    refine HAD.out.mono ?_
    rintro e w3 ⟨rfl, hy⟩
    rw [if_pos rfl] at hy
    have H3 := Lib.hid hy
    clear hy H2 HAD
    go_wp2_with fail
    go_at_call 37
    refine (then_any H3.out .enter _ rfl).mono ?_
    rintro e w4 ⟨rfl, hy⟩
    have H4 := Lib.hid hy
    clear hy
    go_wp2_with fail
    go_end0
    exact ⟨rfl, H4.out⟩
  · rw [show absentA b.C S r = decideA (readS b.C (ldS S r 0) (ldG S r)) (ldG S r) av by unfold absentA absentR; rw [show admitV b.C (ldG S r) ((ldS S r 0).rl (vG (ldG S r).wg)) = av from hav, if_neg h1]]
    have HAV : Hid (admitV b.C (ldG S r) ((ldS S r 0).rl (vG (ldG S r).wg)) = av) := hav
    have H1N := Lib.hid h1
    have d1 : (av == 1) = false := by simpa using h1
    clear hav h1 H hr hF he
    go_enter Tryz.func106, Tryz.ntmps106
    go_wp2_with fail
    go_at_call 71
    refine (loadGate_any H0.out (HR.out.mono (by omega))).mono ?_
    rintro e w1 ⟨rfl, hy⟩
    have H1 := Lib.hid hy
    clear hy H0
    go_wp2_with fail
    go_at_call 147
    refine (readRules_any H1.out ((HR.out.ld 0).mono (by omega)) HF1.out HE.out).mono ?_
    rintro e w2 ⟨v, rfl, hy⟩
    have H2 := Lib.hid hy
    clear hy H1
    go_wp2_with fail
    have HAD := Lib.hid (admit_any H2.out HF2.out HE.out)
    rw [HAV.out] at HAD
    go_at_call 146
    refine HAD.out.mono ?_
    rintro e w3 ⟨rfl, hy⟩
    rw [if_neg H1N.out] at hy
    have H3 := Lib.hid hy
    clear hy H2 HAD
    go_wp2_with fail
    go_at_call 149
    refine (decide_act6 H3.out HRM.out HF2.out HE.out av).mono ?_
    rintro e w4 ⟨rfl, hy⟩
    have H4 := Lib.hid hy
    clear hy
    go_wp2_with fail
    go_end0
    exact ⟨rfl, H4.out⟩
end
end Pg
end Go.Proofs.YtcockldefmmhbaaGreatDoor
/- Layer 21: the acts, a seventh part. (Written by wip/tools/mkPrgO.py.) -/
set_option linter.unusedVariables false
set_option linter.unusedSimpArgs false
set_option maxRecDepth 100000
namespace Go.Proofs.YtcockldefmmhbaaGreatDoor
open Go.ChangeShapes Go.WideShapes Go.ChangeAt Go.RowKit Go.Mtl Go.Lib
namespace Pg
open MemM (Ms lookV loadS swapB swapS holdV lockB lockS unlockS touchS moreS)
open RulM (R)
open AutM (Ke)
open Me (ptr)
open Tb (TAt TM Fw)
section
variable {b : Bs} {W : World} {S : Sh} {r : Rn}
theorem put_y (H : Y b S r W) (hr : Rm 0 S) (hk : r.k.Ok) (x : Int) (hx : -9223372036854775808 ≤ x ∧ x ≤ 9223372036854775807) : Calls Tryz.prog 201 #[ptr b.tb, .int .i64 r.t, .agg #[.int .u32 (r.k.a : Int), .int .u32 (r.k.b : Int), .int .u16 (r.k.p : Int), .int .u16 (r.k.q : Int), .int .u8 (r.k.r : Int)], .int .i64 x, .bool r.dn] W fun e w' => (∃ ve, e = .returned (.int .i64 ve)) ∧ Y b (putS b.C S r x) r w' := by
  cases hh : hasB b.C S r with
  | false =>
    rw [show putS b.C S r x = S by unfold putS; rw [hh]; rfl]
    refine (H.table (fs' := S.fs) (fun w Om Ot h => Tb.put_no h r.t r.k hk x r.dn _ rfl hh)).mono ?_
    rintro e w' ⟨rfl, h⟩
    exact ⟨⟨_, rfl⟩, h⟩
  | true =>
    rw [show putS b.C S r x = { S with ms := touchS S.ms r.t 6 ((Tb.sOf b.C.n r.k : Nat) : Int), fs := Tb.upd ⟨r.k, x, r.dn⟩ S.fs } by unfold putS; rw [hh]; rfl]
    refine (H.table (fun w Om Ot h => Tb.put_yes h hr.l r.t r.k hk x r.dn _ rfl hh hx)).mono ?_
    rintro e w' ⟨rfl, h⟩
    exact ⟨⟨_, rfl⟩, h⟩
theorem vG_swap {x : Int} (h : W64 x) : vG (swapW x) = swapV x := by
  unfold swapW swapV
  by_cases hb : vG x = 4095
  · rw [if_pos hb, if_pos hb]
  · rw [if_neg hb, if_neg hb]; exact (wG (fit_swap h hb)).2.2.2
set_option maxHeartbeats 4000000 in
theorem enter_act (H : Y b S r W) (hr : Rm 9 S) (hF : Fit b.C S r) (he : Env b.w0) : Calls Tryz.prog 148 #[ptr b.g] W (Yd b U ((enterA b.C S r).1) ((enterA b.C S r).2)) := by
  have HR := Lib.hid hr
  have HF := Lib.hid hF
  have HE := Lib.hid he
  have H0 := Lib.hid H
  have HN := Lib.hid (w_enter hF.wg b.C.N)
  have HEN := Lib.hid (fun W he => enterG hF.wg b.C.N W he)
  have HNX := Lib.hid (w_next (x := 0) ⟨by omega, by omega⟩ r.tn (untilN b.C r))
  cases hz : swapB S.ms 0 r.wg
  · rw [show enterA b.C S r = ((swS S r 0 r.wg (enterW b.C.N r.wg)), goto r .absent) by unfold enterA; rw [hz]; rfl]
    have HZ : Hid (swapB S.ms 0 r.wg = false) := hz
    clear hz H hr hF he
    go_enter Tryz.func148, Tryz.ntmps148
    go_wp2_with fail
    refine wp_region_held_drew (S := fun w' => w'.cell? ⟨b.g, 35, none⟩ = some (.int .u64 r.wg) ∧ w'.cell? ⟨b.g, 0, none⟩ = some (ptr b.B) ∧ w'.cell? ⟨b.B, 1, none⟩ = some (.int .i64 b.C.N)) (by kernel_rfl) (⟨H0.out.drew.cell 35 (.int .u64 r.wg) (fun _ _ => rfl), H0.out.drew.cell 0 (ptr b.B) (fun _ _ => rfl), H0.out.drew.shared 1 (.int .i64 b.C.N) (fun _ => rfl)⟩) (fun hH => ?_)
    refine wpAnyH_take (i := 0) (oi := ⟨some 6, _, _, _, _, _⟩) (v := ?v1) rfl (by kernel_rfl) (by kernel_rfl) (by kernel_rfl) (fun _ _ _ h => h) (Or.inl ⟨rfl, ?c1⟩) hH ?r1
    case c1 => (intro w' _; go_simp; (try with_reducible rfl))
    try simp only [Act.put, List.setIfInBounds_toArray, List.set_cons_zero, List.set_cons_succ]
    refine wpAnyH_take (i := 1) (oi := ⟨some 7, _, _, _, _, _⟩) (v := ?v2) rfl (by kernel_rfl) (by kernel_rfl) (by kernel_rfl) (fun _ _ _ h => h) (Or.inl ⟨rfl, ?c2⟩) hH ?r2
    case c2 => (intro w' _; go_simp; (try with_reducible rfl))
    try simp only [Act.put, List.setIfInBounds_toArray, List.set_cons_zero, List.set_cons_succ]
    refine wpAnyH_take (i := 2) (oi := ⟨some 8, _, _, _, _, _⟩) (v := ?v3) rfl (by kernel_rfl) (by kernel_rfl) (by kernel_rfl) (fun _ _ _ h => h) (Or.inl ⟨rfl, ?c3⟩) hH ?r3
    case c3 => (intro w' _; go_simp; (try with_reducible rfl))
    try simp only [Act.put, List.setIfInBounds_toArray, List.set_cons_zero, List.set_cons_succ]
    refine wpAnyH_take (i := 3) (oi := ⟨some 9, _, _, _, _, _⟩) (v := ?v4) rfl (by kernel_rfl) (by kernel_rfl) (by kernel_rfl) (fun _ _ _ h => h) (Or.inl ⟨rfl, ?c4⟩) hH ?r4
    case c4 => (intro w' hS; (try dsimp only at hS); go_simp; (try with_reducible rfl))
    try simp only [Act.put, List.setIfInBounds_toArray, List.set_cons_zero, List.set_cons_succ]
    refine wpAnyH_take (i := 4) (oi := ⟨some 10, _, _, _, _, _⟩) (v := ?v5) rfl (by kernel_rfl) (by kernel_rfl) (by kernel_rfl) (fun _ _ _ h => h) (Or.inl ⟨rfl, ?c5⟩) hH ?r5
    case c5 => (intro w' _; go_simp; (try with_reducible rfl))
    try simp only [Act.put, List.setIfInBounds_toArray, List.set_cons_zero, List.set_cons_succ]
    refine wpAnyH_take (i := 5) (oi := ⟨some 11, _, _, _, _, _⟩) (v := ?v6) rfl (by kernel_rfl) (by kernel_rfl) (by kernel_rfl) (fun _ _ _ h => h) (Or.inl ⟨rfl, ?c6⟩) hH ?r6
    case c6 => (intro w' _; go_simp; (try with_reducible rfl))
    try simp only [Act.put, List.setIfInBounds_toArray, List.set_cons_zero, List.set_cons_succ]
    refine wpAnyH_take (i := 6) (oi := ⟨some 12, _, _, _, _, _⟩) (v := ?v7) rfl (by kernel_rfl) (by kernel_rfl) (by kernel_rfl) (fun _ _ _ h => h) (Or.inl ⟨rfl, ?c7⟩) hH ?r7
    case c7 => (intro w' _; go_simp; (try with_reducible rfl))
    try simp only [Act.put, List.setIfInBounds_toArray, List.set_cons_zero, List.set_cons_succ]
    refine wpAnyH_take (i := 7) (oi := ⟨some 13, _, _, _, _, _⟩) (v := ?v8) rfl (by kernel_rfl) (by kernel_rfl) (by kernel_rfl) (fun _ _ _ h => h) (Or.inl ⟨rfl, ?c8⟩) hH ?r8
    case c8 => (intro w' hS; (try dsimp only at hS); go_simp; (try with_reducible rfl))
    try simp only [Act.put, List.setIfInBounds_toArray, List.set_cons_zero, List.set_cons_succ]
    refine wpAnyH_take (i := 8) (oi := ⟨some 14, _, _, _, _, _⟩) (v := ?v9) rfl (by kernel_rfl) (by kernel_rfl) (by kernel_rfl) (fun _ _ _ h => h) (Or.inl ⟨rfl, ?c9⟩) hH ?r9
    case c9 => (intro w' _; go_simp; (try with_reducible rfl))
    try simp only [Act.put, List.setIfInBounds_toArray, List.set_cons_zero, List.set_cons_succ]
    refine wpAnyH_take (i := 9) (oi := ⟨some 15, _, _, _, _, _⟩) (v := ?v10) rfl (by kernel_rfl) (by kernel_rfl) (by kernel_rfl) (fun _ _ _ h => h) (Or.inl ⟨rfl, ?c10⟩) hH ?r10
    case c10 => (intro w' _; go_simp; (try with_reducible rfl))
    try simp only [Act.put, List.setIfInBounds_toArray, List.set_cons_zero, List.set_cons_succ]
    refine wpAnyH_take (i := 10) (oi := ⟨some 16, _, _, _, _, _⟩) (v := ?v11) rfl (by kernel_rfl) (by kernel_rfl) (by kernel_rfl) (fun _ _ _ h => h) (Or.inl ⟨rfl, ?c11⟩) hH ?r11
    case c11 => (intro w' _; go_simp; (try with_reducible rfl))
    try simp only [Act.put, List.setIfInBounds_toArray, List.set_cons_zero, List.set_cons_succ]
    refine wpAnyH_take (i := 11) (oi := ⟨some 17, _, _, _, _, _⟩) (v := ?v12) rfl (by kernel_rfl) (by kernel_rfl) (by kernel_rfl) (fun _ _ _ h => h) (Or.inl ⟨rfl, ?c12⟩) hH ?r12
    case c12 => (intro w' hS; (try dsimp only at hS); go_simp; (try with_reducible rfl))
    try simp only [Act.put, List.setIfInBounds_toArray, List.set_cons_zero, List.set_cons_succ]
    refine wpAnyH_ready (rs := [12]) (by kernel_rfl) (by simp) (AllReadyH.cons rfl (fun K hK => ?_) (AllReadyH.nil))
    go_simp
    go_at_call 197
    refine (HEN.out _ (H0.out.drew.env HE.out)).mono ?_
    rintro e w1 ⟨rfl, hy⟩
    refine hK.out _ _ (⟨(H0.out.drew.next hy).cell 35 (.int .u64 r.wg) (fun _ _ => rfl), (H0.out.drew.next hy).cell 0 (ptr b.B) (fun _ _ => rfl), (H0.out.drew.next hy).shared 1 (.int .i64 b.C.N) (fun _ => rfl)⟩) (fun hH => ?_)
    clear hK K
    have H1 := Lib.hid (H0.out.drew.next hy)
    clear hy H0
    try simp only [Act.put, List.setIfInBounds_toArray, List.set_cons_zero, List.set_cons_succ]
    refine wpAnyH_take (i := 13) (oi := ⟨some 5, _, _, _, _, _⟩) (v := ?v13) rfl (by kernel_rfl) (by kernel_rfl) (by kernel_rfl) (fun _ _ _ h => h) (Or.inl ⟨rfl, ?c13⟩) hH ?r13
    case c13 => (intro w' _; go_simp; (try with_reducible rfl))
    try simp only [Act.put, List.setIfInBounds_toArray, List.set_cons_zero, List.set_cons_succ]
    refine wpAnyH_take (i := 14) (oi := ⟨some 19, _, _, _, _, _⟩) (v := ?v14) rfl (by kernel_rfl) (by kernel_rfl) (by kernel_rfl) (fun _ _ _ h => h) (Or.inl ⟨rfl, ?c14⟩) hH ?r14
    case c14 => (intro w' _; go_simp; (try with_reducible rfl))
    try simp only [Act.put, List.setIfInBounds_toArray, List.set_cons_zero, List.set_cons_succ]
    refine wpAnyH_take (i := 15) (oi := ⟨some 20, _, _, _, _, _⟩) (v := ?v15) rfl (by kernel_rfl) (by kernel_rfl) (by kernel_rfl) (fun _ _ _ h => h) (Or.inl ⟨rfl, ?c15⟩) hH ?r15
    case c15 => (intro w' _; go_simp; (try with_reducible rfl))
    try simp only [Act.put, List.setIfInBounds_toArray, List.set_cons_zero, List.set_cons_succ]
    refine wpAnyH_take (i := 16) (oi := ⟨some 2, _, _, _, _, _⟩) (v := ?v16) rfl (by kernel_rfl) (by kernel_rfl) (by kernel_rfl) (fun _ _ _ h => h) (Or.inl ⟨rfl, ?c16⟩) hH ?r16
    case c16 => (intro w' _; go_simp; (try with_reducible rfl))
    try simp only [Act.put, List.setIfInBounds_toArray, List.set_cons_zero, List.set_cons_succ]
    refine wpAnyH_take (i := 17) (oi := ⟨some 3, _, _, _, _, _⟩) (v := ?v17) rfl (by kernel_rfl) (by kernel_rfl) (by kernel_rfl) (fun _ _ _ h => h) (Or.inl ⟨rfl, ?c17⟩) hH ?r17
    case c17 => (intro w' _; go_simp; (try with_reducible rfl))
    try simp only [Act.put, List.setIfInBounds_toArray, List.set_cons_zero, List.set_cons_succ]
    refine wpAnyH_done (by kernel_rfl) ?_ _
    clear hH
    go_wp2_with fail
    have HSW := Lib.hid (swapGate_any H1.out (HR.out.mono (by omega)) _ HN.out)
    rw [HZ.out] at HSW
    go_at_call 111
    refine HSW.out.mono ?_
    rintro e w2 ⟨rfl, hy⟩
    have H2 := Lib.hid hy
    clear hy HSW H1
    go_wp2_with fail
    go_at_call 37
    refine (then_any H2.out .absent _ rfl).mono ?_
    rintro e w4 ⟨rfl, hy⟩
    have H4 := Lib.hid hy
    clear hy
    go_wp2_with fail
    go_end0
    exact ⟨rfl, H4.out⟩
  · rw [show enterA b.C S r = decideA (putS b.C (mewS (swS S r 0 r.wg (enterW b.C.N r.wg)) (nextW 0 r.tn (untilN b.C r))) r ((swS S r 0 r.wg (enterW b.C.N r.wg)).ms.ws.length : Int)) r 1 by unfold enterA; rw [hz]; rfl]
    have HZ : Hid (swapB S.ms 0 r.wg = true) := hz
    clear hz H hr hF he
    go_enter Tryz.func148, Tryz.ntmps148
    go_wp2_with fail
    refine wp_region_held_drew (S := fun w' => w'.cell? ⟨b.g, 35, none⟩ = some (.int .u64 r.wg) ∧ w'.cell? ⟨b.g, 0, none⟩ = some (ptr b.B) ∧ w'.cell? ⟨b.B, 1, none⟩ = some (.int .i64 b.C.N)) (by kernel_rfl) (⟨H0.out.drew.cell 35 (.int .u64 r.wg) (fun _ _ => rfl), H0.out.drew.cell 0 (ptr b.B) (fun _ _ => rfl), H0.out.drew.shared 1 (.int .i64 b.C.N) (fun _ => rfl)⟩) (fun hH => ?_)
    refine wpAnyH_take (i := 0) (oi := ⟨some 6, _, _, _, _, _⟩) (v := ?v51) rfl (by kernel_rfl) (by kernel_rfl) (by kernel_rfl) (fun _ _ _ h => h) (Or.inl ⟨rfl, ?c51⟩) hH ?r51
    case c51 => (intro w' _; go_simp; (try with_reducible rfl))
    try simp only [Act.put, List.setIfInBounds_toArray, List.set_cons_zero, List.set_cons_succ]
    refine wpAnyH_take (i := 1) (oi := ⟨some 7, _, _, _, _, _⟩) (v := ?v52) rfl (by kernel_rfl) (by kernel_rfl) (by kernel_rfl) (fun _ _ _ h => h) (Or.inl ⟨rfl, ?c52⟩) hH ?r52
    case c52 => (intro w' _; go_simp; (try with_reducible rfl))
    try simp only [Act.put, List.setIfInBounds_toArray, List.set_cons_zero, List.set_cons_succ]
    refine wpAnyH_take (i := 2) (oi := ⟨some 8, _, _, _, _, _⟩) (v := ?v53) rfl (by kernel_rfl) (by kernel_rfl) (by kernel_rfl) (fun _ _ _ h => h) (Or.inl ⟨rfl, ?c53⟩) hH ?r53
    case c53 => (intro w' _; go_simp; (try with_reducible rfl))
    try simp only [Act.put, List.setIfInBounds_toArray, List.set_cons_zero, List.set_cons_succ]
    refine wpAnyH_take (i := 3) (oi := ⟨some 9, _, _, _, _, _⟩) (v := ?v54) rfl (by kernel_rfl) (by kernel_rfl) (by kernel_rfl) (fun _ _ _ h => h) (Or.inl ⟨rfl, ?c54⟩) hH ?r54
    case c54 => (intro w' hS; (try dsimp only at hS); go_simp; (try with_reducible rfl))
    try simp only [Act.put, List.setIfInBounds_toArray, List.set_cons_zero, List.set_cons_succ]
    refine wpAnyH_take (i := 4) (oi := ⟨some 10, _, _, _, _, _⟩) (v := ?v55) rfl (by kernel_rfl) (by kernel_rfl) (by kernel_rfl) (fun _ _ _ h => h) (Or.inl ⟨rfl, ?c55⟩) hH ?r55
    case c55 => (intro w' _; go_simp; (try with_reducible rfl))
    try simp only [Act.put, List.setIfInBounds_toArray, List.set_cons_zero, List.set_cons_succ]
    refine wpAnyH_take (i := 5) (oi := ⟨some 11, _, _, _, _, _⟩) (v := ?v56) rfl (by kernel_rfl) (by kernel_rfl) (by kernel_rfl) (fun _ _ _ h => h) (Or.inl ⟨rfl, ?c56⟩) hH ?r56
    case c56 => (intro w' _; go_simp; (try with_reducible rfl))
    try simp only [Act.put, List.setIfInBounds_toArray, List.set_cons_zero, List.set_cons_succ]
    refine wpAnyH_take (i := 6) (oi := ⟨some 12, _, _, _, _, _⟩) (v := ?v57) rfl (by kernel_rfl) (by kernel_rfl) (by kernel_rfl) (fun _ _ _ h => h) (Or.inl ⟨rfl, ?c57⟩) hH ?r57
    case c57 => (intro w' _; go_simp; (try with_reducible rfl))
    try simp only [Act.put, List.setIfInBounds_toArray, List.set_cons_zero, List.set_cons_succ]
    refine wpAnyH_take (i := 7) (oi := ⟨some 13, _, _, _, _, _⟩) (v := ?v58) rfl (by kernel_rfl) (by kernel_rfl) (by kernel_rfl) (fun _ _ _ h => h) (Or.inl ⟨rfl, ?c58⟩) hH ?r58
    case c58 => (intro w' hS; (try dsimp only at hS); go_simp; (try with_reducible rfl))
    try simp only [Act.put, List.setIfInBounds_toArray, List.set_cons_zero, List.set_cons_succ]
    refine wpAnyH_take (i := 8) (oi := ⟨some 14, _, _, _, _, _⟩) (v := ?v59) rfl (by kernel_rfl) (by kernel_rfl) (by kernel_rfl) (fun _ _ _ h => h) (Or.inl ⟨rfl, ?c59⟩) hH ?r59
    case c59 => (intro w' _; go_simp; (try with_reducible rfl))
    try simp only [Act.put, List.setIfInBounds_toArray, List.set_cons_zero, List.set_cons_succ]
    refine wpAnyH_take (i := 9) (oi := ⟨some 15, _, _, _, _, _⟩) (v := ?v60) rfl (by kernel_rfl) (by kernel_rfl) (by kernel_rfl) (fun _ _ _ h => h) (Or.inl ⟨rfl, ?c60⟩) hH ?r60
    case c60 => (intro w' _; go_simp; (try with_reducible rfl))
    try simp only [Act.put, List.setIfInBounds_toArray, List.set_cons_zero, List.set_cons_succ]
    refine wpAnyH_take (i := 10) (oi := ⟨some 16, _, _, _, _, _⟩) (v := ?v61) rfl (by kernel_rfl) (by kernel_rfl) (by kernel_rfl) (fun _ _ _ h => h) (Or.inl ⟨rfl, ?c61⟩) hH ?r61
    case c61 => (intro w' _; go_simp; (try with_reducible rfl))
    try simp only [Act.put, List.setIfInBounds_toArray, List.set_cons_zero, List.set_cons_succ]
    refine wpAnyH_take (i := 11) (oi := ⟨some 17, _, _, _, _, _⟩) (v := ?v62) rfl (by kernel_rfl) (by kernel_rfl) (by kernel_rfl) (fun _ _ _ h => h) (Or.inl ⟨rfl, ?c62⟩) hH ?r62
    case c62 => (intro w' hS; (try dsimp only at hS); go_simp; (try with_reducible rfl))
    try simp only [Act.put, List.setIfInBounds_toArray, List.set_cons_zero, List.set_cons_succ]
    refine wpAnyH_ready (rs := [12]) (by kernel_rfl) (by simp) (AllReadyH.cons rfl (fun K hK => ?_) (AllReadyH.nil))
    go_simp
    go_at_call 197
    refine (HEN.out _ (H0.out.drew.env HE.out)).mono ?_
    rintro e w1 ⟨rfl, hy⟩
    refine hK.out _ _ (⟨(H0.out.drew.next hy).cell 35 (.int .u64 r.wg) (fun _ _ => rfl), (H0.out.drew.next hy).cell 0 (ptr b.B) (fun _ _ => rfl), (H0.out.drew.next hy).shared 1 (.int .i64 b.C.N) (fun _ => rfl)⟩) (fun hH => ?_)
    clear hK K
    have H1 := Lib.hid (H0.out.drew.next hy)
    clear hy H0
    try simp only [Act.put, List.setIfInBounds_toArray, List.set_cons_zero, List.set_cons_succ]
    refine wpAnyH_take (i := 13) (oi := ⟨some 5, _, _, _, _, _⟩) (v := ?v63) rfl (by kernel_rfl) (by kernel_rfl) (by kernel_rfl) (fun _ _ _ h => h) (Or.inl ⟨rfl, ?c63⟩) hH ?r63
    case c63 => (intro w' _; go_simp; (try with_reducible rfl))
    try simp only [Act.put, List.setIfInBounds_toArray, List.set_cons_zero, List.set_cons_succ]
    refine wpAnyH_take (i := 14) (oi := ⟨some 19, _, _, _, _, _⟩) (v := ?v64) rfl (by kernel_rfl) (by kernel_rfl) (by kernel_rfl) (fun _ _ _ h => h) (Or.inl ⟨rfl, ?c64⟩) hH ?r64
    case c64 => (intro w' _; go_simp; (try with_reducible rfl))
    try simp only [Act.put, List.setIfInBounds_toArray, List.set_cons_zero, List.set_cons_succ]
    refine wpAnyH_take (i := 15) (oi := ⟨some 20, _, _, _, _, _⟩) (v := ?v65) rfl (by kernel_rfl) (by kernel_rfl) (by kernel_rfl) (fun _ _ _ h => h) (Or.inl ⟨rfl, ?c65⟩) hH ?r65
    case c65 => (intro w' _; go_simp; (try with_reducible rfl))
    try simp only [Act.put, List.setIfInBounds_toArray, List.set_cons_zero, List.set_cons_succ]
    refine wpAnyH_take (i := 16) (oi := ⟨some 2, _, _, _, _, _⟩) (v := ?v66) rfl (by kernel_rfl) (by kernel_rfl) (by kernel_rfl) (fun _ _ _ h => h) (Or.inl ⟨rfl, ?c66⟩) hH ?r66
    case c66 => (intro w' _; go_simp; (try with_reducible rfl))
    try simp only [Act.put, List.setIfInBounds_toArray, List.set_cons_zero, List.set_cons_succ]
    refine wpAnyH_take (i := 17) (oi := ⟨some 3, _, _, _, _, _⟩) (v := ?v67) rfl (by kernel_rfl) (by kernel_rfl) (by kernel_rfl) (fun _ _ _ h => h) (Or.inl ⟨rfl, ?c67⟩) hH ?r67
    case c67 => (intro w' _; go_simp; (try with_reducible rfl))
    try simp only [Act.put, List.setIfInBounds_toArray, List.set_cons_zero, List.set_cons_succ]
    refine wpAnyH_done (by kernel_rfl) ?_ _
    clear hH
    go_wp2_with fail
    have HSW := Lib.hid (swapGate_any H1.out (HR.out.mono (by omega)) _ HN.out)
    rw [HZ.out] at HSW
    go_at_call 111
    refine HSW.out.mono ?_
    rintro e w2 ⟨rfl, hy⟩
    have H2 := Lib.hid hy
    clear hy HSW H1
    go_wp2_with fail
    have HMW : Hid ((swS S r 0 r.wg (enterW b.C.N r.wg)).ms.ws.length < 1000000000000) := ((HR.out.sw 0 r.wg (enterW b.C.N r.wg)).mono (Nat.zero_le _)).w
    have HWL : Hid (-9223372036854775808 ≤ ((swS S r 0 r.wg (enterW b.C.N r.wg)).ms.ws.length : Int) ∧ ((swS S r 0 r.wg (enterW b.C.N r.wg)).ms.ws.length : Int) ≤ 9223372036854775807) := by have := HMW.out; show _ ∧ _; omega
    have HFP : Hid (Fit b.C (putS b.C (mewS (swS S r 0 r.wg (enterW b.C.N r.wg)) (nextW 0 r.tn (untilN b.C r))) r ((swS S r 0 r.wg (enterW b.C.N r.wg)).ms.ws.length : Int)) r) := ⟨HF.out.wf, HF.out.wg, HF.out.wc, HF.out.k, HF.out.p, HF.out.st, HF.out.cn, HF.out.cT, HF.out.z, fun h => by have := HF.out.mr h; unfold putS; split <;> exact this, HF.out.q, HF.out.tt⟩
    refine wp_region_held_drew (S := fun w' => w'.cell? ⟨b.g, 0, none⟩ = some (ptr b.B) ∧ w'.cell? ⟨b.B, 18, none⟩ = some (ptr b.mb) ∧ w'.cell? ⟨b.g, 32, none⟩ = some (.int .i64 r.tn)) (by kernel_rfl) (⟨H2.out.drew.cell 0 (ptr b.B) (fun _ _ => rfl), H2.out.drew.shared 18 (ptr b.mb) (fun _ => rfl), H2.out.drew.cell 32 (.int .i64 r.tn) (fun _ _ => rfl)⟩) (fun hH => ?_)
    refine wpAnyH_take (i := 0) (oi := ⟨some 27, _, _, _, _, _⟩) (v := ?v18) rfl (by kernel_rfl) (by kernel_rfl) (by kernel_rfl) (fun _ _ _ h => h) (Or.inl ⟨rfl, ?c18⟩) hH ?r18
    case c18 => (intro w' _; go_simp; (try with_reducible rfl))
    try simp only [Act.put, List.setIfInBounds_toArray, List.set_cons_zero, List.set_cons_succ]
    refine wpAnyH_take (i := 1) (oi := ⟨some 28, _, _, _, _, _⟩) (v := ?v19) rfl (by kernel_rfl) (by kernel_rfl) (by kernel_rfl) (fun _ _ _ h => h) (Or.inl ⟨rfl, ?c19⟩) hH ?r19
    case c19 => (intro w' _; go_simp; (try with_reducible rfl))
    try simp only [Act.put, List.setIfInBounds_toArray, List.set_cons_zero, List.set_cons_succ]
    refine wpAnyH_take (i := 2) (oi := ⟨some 29, _, _, _, _, _⟩) (v := ?v20) rfl (by kernel_rfl) (by kernel_rfl) (by kernel_rfl) (fun _ _ _ h => h) (Or.inl ⟨rfl, ?c20⟩) hH ?r20
    case c20 => (intro w' _; go_simp; (try with_reducible rfl))
    try simp only [Act.put, List.setIfInBounds_toArray, List.set_cons_zero, List.set_cons_succ]
    refine wpAnyH_take (i := 3) (oi := ⟨some 30, _, _, _, _, _⟩) (v := ?v21) rfl (by kernel_rfl) (by kernel_rfl) (by kernel_rfl) (fun _ _ _ h => h) (Or.inl ⟨rfl, ?c21⟩) hH ?r21
    case c21 => (intro w' hS; (try dsimp only at hS); go_simp; (try with_reducible rfl))
    try simp only [Act.put, List.setIfInBounds_toArray, List.set_cons_zero, List.set_cons_succ]
    refine wpAnyH_take (i := 4) (oi := ⟨some 31, _, _, _, _, _⟩) (v := ?v22) rfl (by kernel_rfl) (by kernel_rfl) (by kernel_rfl) (fun _ _ _ h => h) (Or.inl ⟨rfl, ?c22⟩) hH ?r22
    case c22 => (intro w' _; go_simp; (try with_reducible rfl))
    try simp only [Act.put, List.setIfInBounds_toArray, List.set_cons_zero, List.set_cons_succ]
    refine wpAnyH_take (i := 5) (oi := ⟨some 32, _, _, _, _, _⟩) (v := ?v23) rfl (by kernel_rfl) (by kernel_rfl) (by kernel_rfl) (fun _ _ _ h => h) (Or.inl ⟨rfl, ?c23⟩) hH ?r23
    case c23 => (intro w' _; go_simp; (try with_reducible rfl))
    try simp only [Act.put, List.setIfInBounds_toArray, List.set_cons_zero, List.set_cons_succ]
    refine wpAnyH_take (i := 6) (oi := ⟨some 33, _, _, _, _, _⟩) (v := ?v24) rfl (by kernel_rfl) (by kernel_rfl) (by kernel_rfl) (fun _ _ _ h => h) (Or.inl ⟨rfl, ?c24⟩) hH ?r24
    case c24 => (intro w' hS; (try dsimp only at hS); go_simp; (try with_reducible rfl))
    try simp only [Act.put, List.setIfInBounds_toArray, List.set_cons_zero, List.set_cons_succ]
    refine wpAnyH_take (i := 7) (oi := ⟨some 34, _, _, _, _, _⟩) (v := ?v25) rfl (by kernel_rfl) (by kernel_rfl) (by kernel_rfl) (fun _ _ _ h => h) (Or.inl ⟨rfl, ?c25⟩) hH ?r25
    case c25 => (intro w' _; go_simp; (try with_reducible rfl))
    try simp only [Act.put, List.setIfInBounds_toArray, List.set_cons_zero, List.set_cons_succ]
    refine wpAnyH_take (i := 8) (oi := ⟨some 35, _, _, _, _, _⟩) (v := ?v26) rfl (by kernel_rfl) (by kernel_rfl) (by kernel_rfl) (fun _ _ _ h => h) (Or.inl ⟨rfl, ?c26⟩) hH ?r26
    case c26 => (intro w' _; go_simp; (try with_reducible rfl))
    try simp only [Act.put, List.setIfInBounds_toArray, List.set_cons_zero, List.set_cons_succ]
    refine wpAnyH_take (i := 9) (oi := ⟨some 36, _, _, _, _, _⟩) (v := ?v27) rfl (by kernel_rfl) (by kernel_rfl) (by kernel_rfl) (fun _ _ _ h => h) (Or.inl ⟨rfl, ?c27⟩) hH ?r27
    case c27 => (intro w' _; go_simp; (try with_reducible rfl))
    try simp only [Act.put, List.setIfInBounds_toArray, List.set_cons_zero, List.set_cons_succ]
    refine wpAnyH_take (i := 10) (oi := ⟨some 37, _, _, _, _, _⟩) (v := ?v28) rfl (by kernel_rfl) (by kernel_rfl) (by kernel_rfl) (fun _ _ _ h => h) (Or.inl ⟨rfl, ?c28⟩) hH ?r28
    case c28 => (intro w' hS; (try dsimp only at hS); go_simp; (try with_reducible rfl))
    try simp only [Act.put, List.setIfInBounds_toArray, List.set_cons_zero, List.set_cons_succ]
    refine wpAnyH_take (i := 11) (oi := ⟨some 38, _, _, _, _, _⟩) (v := ?v29) rfl (by kernel_rfl) (by kernel_rfl) (by kernel_rfl) (fun _ _ _ h => h) (Or.inl ⟨rfl, ?c29⟩) hH ?r29
    case c29 => (intro w' _; go_simp; (try with_reducible rfl))
    try simp only [Act.put, List.setIfInBounds_toArray, List.set_cons_zero, List.set_cons_succ]
    refine wpAnyH_ready (rs := [12]) (by kernel_rfl) (by simp) (AllReadyH.cons rfl (fun K hK => ?_) (AllReadyH.nil))
    go_simp
    go_at_call 200
    refine (until_any H2.out.drew HF.out.wg HE.out HF.out.cT).mono ?_
    rintro e w3 ⟨rfl, hy⟩
    refine hK.out _ _ (⟨hy.cell 0 (ptr b.B) (fun _ _ => rfl), hy.shared 18 (ptr b.mb) (fun _ => rfl), hy.cell 32 (.int .i64 r.tn) (fun _ _ => rfl)⟩) (fun hH => ?_)
    clear hK K
    have H3 := Lib.hid hy
    clear hy H2
    try simp only [Act.put, List.setIfInBounds_toArray, List.set_cons_zero, List.set_cons_succ]
    refine wpAnyH_ready (rs := [13]) (by kernel_rfl) (by simp) (AllReadyH.cons rfl (fun K hK => ?_) (AllReadyH.nil))
    go_simp
    go_at_call 199
    refine (nextF (x := 0) ⟨by omega, by omega⟩ r.tn (untilN b.C r) _ (H3.out.env HE.out)).mono ?_
    rintro e w4 ⟨rfl, hy⟩
    refine hK.out _ _ (⟨(H3.out.next hy).cell 0 (ptr b.B) (fun _ _ => rfl), (H3.out.next hy).shared 18 (ptr b.mb) (fun _ => rfl), (H3.out.next hy).cell 32 (.int .i64 r.tn) (fun _ _ => rfl)⟩) (fun hH => ?_)
    clear hK K
    have H4 := Lib.hid (H3.out.next hy)
    clear hy H3
    try simp only [Act.put, List.setIfInBounds_toArray, List.set_cons_zero, List.set_cons_succ]
    refine wpAnyH_ready (rs := [14]) (by kernel_rfl) (by simp) (AllReadyH.cons rfl (fun K hK => ?_) (AllReadyH.nil))
    go_simp
    go_at_call 198
    refine (H4.out.does (fun Om h => Me.more_any h _ HNX.out HMW.out)).mono ?_
    rintro e w5 ⟨rfl, hy⟩
    refine hK.out _ _ (⟨hy.cell 0 (ptr b.B) (fun _ _ => rfl), hy.shared 18 (ptr b.mb) (fun _ => rfl), hy.cell 32 (.int .i64 r.tn) (fun _ _ => rfl)⟩) (fun hH => ?_)
    clear hK K
    have H5 : Hid (Y b (mewS (swS S r 0 r.wg (enterW b.C.N r.wg)) (nextW 0 r.tn (untilN b.C r))) r w5) := hy
    clear hy H4
    try simp only [Act.put, List.setIfInBounds_toArray, List.set_cons_zero, List.set_cons_succ]
    refine wpAnyH_take (i := 15) (oi := ⟨some 4, _, _, _, _, _⟩) (v := ?v30) rfl (by kernel_rfl) (by kernel_rfl) (by kernel_rfl) (fun _ _ _ h => h) (Or.inl ⟨rfl, ?c30⟩) hH ?r30
    case c30 => (intro w' _; go_simp; (try with_reducible rfl))
    try simp only [Act.put, List.setIfInBounds_toArray, List.set_cons_zero, List.set_cons_succ]
    refine wpAnyH_done (by kernel_rfl) ?_ _
    clear hH
    go_wp2_with fail
    refine wp_region_held_drew (S := fun w' => w'.cell? ⟨b.g, 0, none⟩ = some (ptr b.B) ∧ w'.cell? ⟨b.B, 19, none⟩ = some (ptr b.tb) ∧ w'.cell? ⟨b.g, 1, none⟩ = some (.int .i64 r.t) ∧ w'.cell? ⟨b.g, 25, none⟩ = some (.int .u32 (r.k.a : Int)) ∧ w'.cell? ⟨b.g, 26, none⟩ = some (.int .u32 (r.k.b : Int)) ∧ w'.cell? ⟨b.g, 27, none⟩ = some (.int .u16 (r.k.p : Int)) ∧ w'.cell? ⟨b.g, 28, none⟩ = some (.int .u16 (r.k.q : Int)) ∧ w'.cell? ⟨b.g, 29, none⟩ = some (.int .u8 (r.k.r : Int)) ∧ w'.cell? ⟨b.g, 19, none⟩ = some (.bool r.dn)) (by kernel_rfl) (⟨H5.out.drew.cell 0 (ptr b.B) (fun _ _ => rfl), H5.out.drew.shared 19 (ptr b.tb) (fun _ => rfl), H5.out.drew.cell 1 (.int .i64 r.t) (fun _ _ => rfl), H5.out.drew.cell 25 (.int .u32 (r.k.a : Int)) (fun _ _ => rfl), H5.out.drew.cell 26 (.int .u32 (r.k.b : Int)) (fun _ _ => rfl), H5.out.drew.cell 27 (.int .u16 (r.k.p : Int)) (fun _ _ => rfl), H5.out.drew.cell 28 (.int .u16 (r.k.q : Int)) (fun _ _ => rfl), H5.out.drew.cell 29 (.int .u8 (r.k.r : Int)) (fun _ _ => rfl), H5.out.drew.cell 19 (.bool r.dn) (fun _ _ => rfl)⟩) (fun hH => ?_)
    refine wpAnyH_take (i := 0) (oi := ⟨some 42, _, _, _, _, _⟩) (v := ?v31) rfl (by kernel_rfl) (by kernel_rfl) (by kernel_rfl) (fun _ _ _ h => h) (Or.inl ⟨rfl, ?c31⟩) hH ?r31
    case c31 => (intro w' _; go_simp; (try with_reducible rfl))
    try simp only [Act.put, List.setIfInBounds_toArray, List.set_cons_zero, List.set_cons_succ]
    refine wpAnyH_take (i := 1) (oi := ⟨some 43, _, _, _, _, _⟩) (v := ?v32) rfl (by kernel_rfl) (by kernel_rfl) (by kernel_rfl) (fun _ _ _ h => h) (Or.inl ⟨rfl, ?c32⟩) hH ?r32
    case c32 => (intro w' _; go_simp; (try with_reducible rfl))
    try simp only [Act.put, List.setIfInBounds_toArray, List.set_cons_zero, List.set_cons_succ]
    refine wpAnyH_take (i := 2) (oi := ⟨some 44, _, _, _, _, _⟩) (v := ?v33) rfl (by kernel_rfl) (by kernel_rfl) (by kernel_rfl) (fun _ _ _ h => h) (Or.inl ⟨rfl, ?c33⟩) hH ?r33
    case c33 => (intro w' _; go_simp; (try with_reducible rfl))
    try simp only [Act.put, List.setIfInBounds_toArray, List.set_cons_zero, List.set_cons_succ]
    refine wpAnyH_take (i := 3) (oi := ⟨some 45, _, _, _, _, _⟩) (v := ?v34) rfl (by kernel_rfl) (by kernel_rfl) (by kernel_rfl) (fun _ _ _ h => h) (Or.inl ⟨rfl, ?c34⟩) hH ?r34
    case c34 => (intro w' hS; (try dsimp only at hS); go_simp; (try with_reducible rfl))
    try simp only [Act.put, List.setIfInBounds_toArray, List.set_cons_zero, List.set_cons_succ]
    refine wpAnyH_take (i := 4) (oi := ⟨some 46, _, _, _, _, _⟩) (v := ?v35) rfl (by kernel_rfl) (by kernel_rfl) (by kernel_rfl) (fun _ _ _ h => h) (Or.inl ⟨rfl, ?c35⟩) hH ?r35
    case c35 => (intro w' _; go_simp; (try with_reducible rfl))
    try simp only [Act.put, List.setIfInBounds_toArray, List.set_cons_zero, List.set_cons_succ]
    refine wpAnyH_take (i := 5) (oi := ⟨some 47, _, _, _, _, _⟩) (v := ?v36) rfl (by kernel_rfl) (by kernel_rfl) (by kernel_rfl) (fun _ _ _ h => h) (Or.inl ⟨rfl, ?c36⟩) hH ?r36
    case c36 => (intro w' _; go_simp; (try with_reducible rfl))
    try simp only [Act.put, List.setIfInBounds_toArray, List.set_cons_zero, List.set_cons_succ]
    refine wpAnyH_take (i := 6) (oi := ⟨some 48, _, _, _, _, _⟩) (v := ?v37) rfl (by kernel_rfl) (by kernel_rfl) (by kernel_rfl) (fun _ _ _ h => h) (Or.inl ⟨rfl, ?c37⟩) hH ?r37
    case c37 => (intro w' hS; (try dsimp only at hS); go_simp; (try with_reducible rfl))
    try simp only [Act.put, List.setIfInBounds_toArray, List.set_cons_zero, List.set_cons_succ]
    refine wpAnyH_take (i := 7) (oi := ⟨some 49, _, _, _, _, _⟩) (v := ?v38) rfl (by kernel_rfl) (by kernel_rfl) (by kernel_rfl) (fun _ _ _ h => h) (Or.inl ⟨rfl, ?c38⟩) hH ?r38
    case c38 => (intro w' _; go_simp; (try with_reducible rfl))
    try simp only [Act.put, List.setIfInBounds_toArray, List.set_cons_zero, List.set_cons_succ]
    refine wpAnyH_take (i := 8) (oi := ⟨some 50, _, _, _, _, _⟩) (v := ?v39) rfl (by kernel_rfl) (by kernel_rfl) (by kernel_rfl) (fun _ _ _ h => h) (Or.inl ⟨rfl, ?c39⟩) hH ?r39
    case c39 => (intro w' _; go_simp; (try with_reducible rfl))
    try simp only [Act.put, List.setIfInBounds_toArray, List.set_cons_zero, List.set_cons_succ]
    refine wpAnyH_take (i := 9) (oi := ⟨some 51, _, _, _, _, _⟩) (v := ?v40) rfl (by kernel_rfl) (by kernel_rfl) (by kernel_rfl) (fun _ _ _ h => h) (Or.inl ⟨rfl, ?c40⟩) hH ?r40
    case c40 => (intro w' _; go_simp; (try with_reducible rfl))
    try simp only [Act.put, List.setIfInBounds_toArray, List.set_cons_zero, List.set_cons_succ]
    refine wpAnyH_take (i := 10) (oi := ⟨some 52, _, _, _, _, _⟩) (v := ?v41) rfl (by kernel_rfl) (by kernel_rfl) (by kernel_rfl) (fun _ _ _ h => h) (Or.inl ⟨rfl, ?c41⟩) hH ?r41
    case c41 => (intro w' hS; (try dsimp only at hS); go_simp; (try with_reducible rfl))
    try simp only [Act.put, List.setIfInBounds_toArray, List.set_cons_zero, List.set_cons_succ]
    refine wpAnyH_take (i := 11) (oi := ⟨some 53, _, _, _, _, _⟩) (v := ?v42) rfl (by kernel_rfl) (by kernel_rfl) (by kernel_rfl) (fun _ _ _ h => h) (Or.inl ⟨rfl, ?c42⟩) hH ?r42
    case c42 => (intro w' _; go_simp; (try with_reducible rfl))
    try simp only [Act.put, List.setIfInBounds_toArray, List.set_cons_zero, List.set_cons_succ]
    refine wpAnyH_take (i := 12) (oi := ⟨some 54, _, _, _, _, _⟩) (v := ?v43) rfl (by kernel_rfl) (by kernel_rfl) (by kernel_rfl) (fun _ _ _ h => h) (Or.inl ⟨rfl, ?c43⟩) hH ?r43
    case c43 => (intro w' _; go_simp; (try with_reducible rfl))
    try simp only [Act.put, List.setIfInBounds_toArray, List.set_cons_zero, List.set_cons_succ]
    refine wpAnyH_take (i := 13) (oi := ⟨some 55, _, _, _, _, _⟩) (v := ?v44) rfl (by kernel_rfl) (by kernel_rfl) (by kernel_rfl) (fun _ _ _ h => h) (Or.inl ⟨rfl, ?c44⟩) hH ?r44
    case c44 => (intro w' _; go_simp; (try with_reducible rfl))
    try simp only [Act.put, List.setIfInBounds_toArray, List.set_cons_zero, List.set_cons_succ]
    refine wpAnyH_take (i := 14) (oi := ⟨some 56, _, _, _, _, _⟩) (v := ?v45) rfl (by kernel_rfl) (by kernel_rfl) (by kernel_rfl) (fun _ _ _ h => h) (Or.inl ⟨rfl, ?c45⟩) hH ?r45
    case c45 => (intro w' hS; (try dsimp only at hS); go_simp; (try with_reducible rfl))
    try simp only [Act.put, List.setIfInBounds_toArray, List.set_cons_zero, List.set_cons_succ]
    refine wpAnyH_take (i := 15) (oi := ⟨some 57, _, _, _, _, _⟩) (v := ?v46) rfl (by kernel_rfl) (by kernel_rfl) (by kernel_rfl) (fun _ _ _ h => h) (Or.inl ⟨rfl, ?c46⟩) hH ?r46
    case c46 => (intro w' _; go_simp; (try with_reducible rfl))
    try simp only [Act.put, List.setIfInBounds_toArray, List.set_cons_zero, List.set_cons_succ]
    refine wpAnyH_take (i := 16) (oi := ⟨some 58, _, _, _, _, _⟩) (v := ?v47) rfl (by kernel_rfl) (by kernel_rfl) (by kernel_rfl) (fun _ _ _ h => h) (Or.inl ⟨rfl, ?c47⟩) hH ?r47
    case c47 => (intro w' _; go_simp; (try with_reducible rfl))
    try simp only [Act.put, List.setIfInBounds_toArray, List.set_cons_zero, List.set_cons_succ]
    refine wpAnyH_take (i := 17) (oi := ⟨some 59, _, _, _, _, _⟩) (v := ?v48) rfl (by kernel_rfl) (by kernel_rfl) (by kernel_rfl) (fun _ _ _ h => h) (Or.inl ⟨rfl, ?c48⟩) hH ?r48
    case c48 => (intro w' _; go_simp; (try with_reducible rfl))
    try simp only [Act.put, List.setIfInBounds_toArray, List.set_cons_zero, List.set_cons_succ]
    refine wpAnyH_take (i := 18) (oi := ⟨some 60, _, _, _, _, _⟩) (v := ?v49) rfl (by kernel_rfl) (by kernel_rfl) (by kernel_rfl) (fun _ _ _ h => h) (Or.inl ⟨rfl, ?c49⟩) hH ?r49
    case c49 => (intro w' _; go_simp; (try with_reducible rfl))
    try simp only [Act.put, List.setIfInBounds_toArray, List.set_cons_zero, List.set_cons_succ]
    refine wpAnyH_take (i := 19) (oi := ⟨some 61, _, _, _, _, _⟩) (v := ?v50) rfl (by kernel_rfl) (by kernel_rfl) (by kernel_rfl) (fun _ _ _ h => h) (Or.inl ⟨rfl, ?c50⟩) hH ?r50
    case c50 => (intro w' hS; (try dsimp only at hS); go_simp; (try with_reducible rfl))
    try simp only [Act.put, List.setIfInBounds_toArray, List.set_cons_zero, List.set_cons_succ]
    refine wpAnyH_ready (rs := [20]) (by kernel_rfl) (by simp) (AllReadyH.cons rfl (fun K hK => ?_) (AllReadyH.nil))
    go_simp
    go_at_call 201
    refine (put_y H5.out.drew (((HR.out.sw 0 r.wg (enterW b.C.N r.wg)).mew _).mono (by omega)) HF.out.k _ HWL.out).mono ?_
    rintro e w6 ⟨⟨ve, rfl⟩, hy⟩
    refine hK.out _ _ (⟨hy.cell 0 (ptr b.B) (fun _ _ => rfl), hy.shared 19 (ptr b.tb) (fun _ => rfl), hy.cell 1 (.int .i64 r.t) (fun _ _ => rfl), hy.cell 25 (.int .u32 (r.k.a : Int)) (fun _ _ => rfl), hy.cell 26 (.int .u32 (r.k.b : Int)) (fun _ _ => rfl), hy.cell 27 (.int .u16 (r.k.p : Int)) (fun _ _ => rfl), hy.cell 28 (.int .u16 (r.k.q : Int)) (fun _ _ => rfl), hy.cell 29 (.int .u8 (r.k.r : Int)) (fun _ _ => rfl), hy.cell 19 (.bool r.dn) (fun _ _ => rfl)⟩) (fun hH => ?_)
    clear hK K
    have H6 := Lib.hid hy
    clear hy H5
    try simp only [Act.put, List.setIfInBounds_toArray, List.set_cons_zero, List.set_cons_succ]
    refine wpAnyH_done (by kernel_rfl) ?_ _
    clear hH
    go_wp2_with fail
    go_at_call 149
    refine (decide_act6 H6.out ((((HR.out.sw 0 r.wg (enterW b.C.N r.wg)).mew _).put _).mono (by omega)) HFP.out HE.out 1).mono ?_
    rintro e w7 ⟨rfl, hy⟩
    have H7 := Lib.hid hy
    clear hy
    go_wp2_with fail
    go_end0
    exact ⟨rfl, H7.out⟩
set_option maxHeartbeats 4000000 in
theorem prepare_act (H : Y b S r W) (hr : Rm 9 S) (hF : Fit b.C S r) (he : Env b.w0) : Calls Tryz.prog 114 #[ptr b.g] W (Yd b U ((prepareA b.C S r).1) ((prepareA b.C S r).2)) := by
  have HR := Lib.hid hr
  have HF := Lib.hid hF
  have HE := Lib.hid he
  have H0 := Lib.hid H
  have HW := Lib.hid (H.word 0)
  by_cases hv : vG (lookV S.ms 0) = 4095
  · rw [show prepareA b.C S r = (ldS S r 0, { ldG S r with e := 2, at_ := .disclaim }) by unfold prepareA prepareR; rw [show vG (ldG S r).wg = 4095 from hv, if_pos rfl]]
    have HSG : Hid (∀ W, Env W → Calls Tryz.prog 163 #[.int .u64 (lookV S.ms 0)] W fun e w' => e = .returned (.tuple #[.int .u64 (swapW (lookV S.ms 0)), .bool false]) ∧ Below W.heap.size W w') := fun W he => by have := swapG HW.out W he; rwa [show decide (vG (lookV S.ms 0) ≠ 4095) = false by simpa using hv] at this
    clear hv H hr hF he
    go_enter Tryz.func114, Tryz.ntmps114
    go_wp2_with fail
    go_at_call 71
    refine (loadGate_any H0.out (HR.out.mono (by omega))).mono ?_
    rintro e w1 ⟨rfl, hy⟩
    have H1 := Lib.hid hy
    clear hy H0
    have q0 : w1.cell? ⟨b.g, 35, none⟩ = some (.int .u64 (lookV S.ms 0)) := H1.out.cell 35 _ (fun _ _ => rfl)
    go_wp2_with fail
    go_at_call 163
    refine HSG.out _ (H1.out.env HE.out) |>.mono ?_
    rintro e w2 ⟨rfl, hy⟩
    have H2 := Lib.hid (H1.out.next hy)
    clear hy q0 H1
    have HS := Lib.hid (H2.out.set (r' := { ldG S r with e := 2 }) 7 (.int .i64 2) (fun _ _ => rfl) rfl rfl)
    have q0 := H2.out.frozen 7
    have q1 : w2.cell? ⟨b.g, 7, none⟩ = some (.int .i64 r.e) := H2.out.cell 7 _ (fun _ _ => rfl)
    clear H2
    go_wp2_with fail
    go_at_call 37
    refine (then_any HS.out .disclaim _ rfl).mono ?_
    rintro e w4 ⟨rfl, hy⟩
    have H4 := Lib.hid hy
    clear hy
    go_wp2_with fail
    go_end0
    exact ⟨rfl, H4.out⟩
  · rw [show prepareA b.C S r = (writeS b.C (ldS S r 0) (ldG S r), goto (ldG S r) .publish) by unfold prepareA prepareR; rw [if_neg (show ¬ vG (ldG S r).wg = 4095 from hv)]]
    have HVS : Hid (vG (swapW (lookV S.ms 0)) = vG (lookV S.ms 0) + 1) := by show _ = _; rw [vG_swap HW.out]; unfold swapV; rw [if_neg hv]
    have HVB : Hid (0 ≤ vG (lookV S.ms 0) + 1 ∧ vG (lookV S.ms 0) + 1 ≤ 4096) := by have h0 := (fitG HW.out).v0; have h1 := (fitG HW.out).v1; show _ ∧ _; omega
    have HWS := Lib.hid (w_swap HW.out)
    have HL : Hid ((ldS S r 0).ms.ls.length ≤ 1000000000000) := ((hr.ld 0).mono (Nat.zero_le _)).l
    have HUN : Hid (∀ W, Env W → Calls Tryz.prog 46 #[.int .u64 (swapW (lookV S.ms 0))] W fun e w' => e = .returned (.agg #[.int .i64 (vG (lookV S.ms 0) + 1), .int .i64 (kG (swapW (lookV S.ms 0))), .int .i64 (cG (swapW (lookV S.ms 0)))]) ∧ Below W.heap.size W w') := fun W he => by have := unpackG HWS.out W he; rwa [HVS.out] at this
    have HSG : Hid (∀ W, Env W → Calls Tryz.prog 163 #[.int .u64 (lookV S.ms 0)] W fun e w' => e = .returned (.tuple #[.int .u64 (swapW (lookV S.ms 0)), .bool true]) ∧ Below W.heap.size W w') := fun W he => by have := swapG HW.out W he; rwa [show decide (vG (lookV S.ms 0) ≠ 4095) = true by simpa using hv] at this
    clear hv
    have HVV : Hid (vG (ldG S r).wg + 1 = vG (lookV S.ms 0) + 1) := rfl
    clear H hr hF he
    go_enter Tryz.func114, Tryz.ntmps114
    go_wp2_with fail
    go_at_call 71
    refine (loadGate_any H0.out (HR.out.mono (by omega))).mono ?_
    rintro e w1 ⟨rfl, hy⟩
    have H1 := Lib.hid hy
    clear hy H0
    have q0 : w1.cell? ⟨b.g, 35, none⟩ = some (.int .u64 (lookV S.ms 0)) := H1.out.cell 35 _ (fun _ _ => rfl)
    go_wp2_with fail
    go_at_call 163
    refine HSG.out _ (H1.out.env HE.out) |>.mono ?_
    rintro e w2 ⟨rfl, hy⟩
    have H2 := Lib.hid (H1.out.next hy)
    clear hy q0 H1
    go_wp2_with fail
    go_at_call 46
    refine (HUN.out _ (H2.out.env HE.out)).mono ?_
    rintro e w3 ⟨rfl, hy⟩
    have H3 := Lib.hid (H2.out.next hy)
    have q0 := gate_v (vG (lookV S.ms 0) + 1) (kG (swapW (lookV S.ms 0))) (cG (swapW (lookV S.ms 0)))
    clear hy H2
    go_wp2_with fail
    clear q0
    refine wp_region_held_drew (S := fun w' => w'.cell? ⟨b.g, 0, none⟩ = some (ptr b.B) ∧ w'.cell? ⟨b.B, 18, none⟩ = some (ptr b.mb) ∧ w'.cell? ⟨b.g, 1, none⟩ = some (.int .i64 r.t)) (by kernel_rfl) (⟨H3.out.drew.cell 0 (ptr b.B) (fun _ _ => rfl), H3.out.drew.shared 18 (ptr b.mb) (fun _ => rfl), H3.out.drew.cell 1 (.int .i64 r.t) (fun _ _ => rfl)⟩) (fun hH => ?_)
    refine wpAnyH_take (i := 0) (oi := ⟨some 26, _, _, _, _, _⟩) (v := ?v1) rfl (by kernel_rfl) (by kernel_rfl) (by kernel_rfl) (fun _ _ _ h => h) (Or.inl ⟨rfl, ?c1⟩) hH ?r1
    case c1 => (intro w' _; go_simp; (try with_reducible rfl))
    try simp only [Act.put, List.setIfInBounds_toArray, List.set_cons_zero, List.set_cons_succ]
    refine wpAnyH_take (i := 1) (oi := ⟨some 27, _, _, _, _, _⟩) (v := ?v2) rfl (by kernel_rfl) (by kernel_rfl) (by kernel_rfl) (fun _ _ _ h => h) (Or.inl ⟨rfl, ?c2⟩) hH ?r2
    case c2 => (intro w' _; go_simp; (try with_reducible rfl))
    try simp only [Act.put, List.setIfInBounds_toArray, List.set_cons_zero, List.set_cons_succ]
    refine wpAnyH_take (i := 2) (oi := ⟨some 28, _, _, _, _, _⟩) (v := ?v3) rfl (by kernel_rfl) (by kernel_rfl) (by kernel_rfl) (fun _ _ _ h => h) (Or.inl ⟨rfl, ?c3⟩) hH ?r3
    case c3 => (intro w' _; go_simp; (try with_reducible rfl))
    try simp only [Act.put, List.setIfInBounds_toArray, List.set_cons_zero, List.set_cons_succ]
    refine wpAnyH_take (i := 3) (oi := ⟨some 29, _, _, _, _, _⟩) (v := ?v4) rfl (by kernel_rfl) (by kernel_rfl) (by kernel_rfl) (fun _ _ _ h => h) (Or.inl ⟨rfl, ?c4⟩) hH ?r4
    case c4 => (intro w' hS; (try dsimp only at hS); go_simp; (try with_reducible rfl))
    try simp only [Act.put, List.setIfInBounds_toArray, List.set_cons_zero, List.set_cons_succ]
    refine wpAnyH_take (i := 4) (oi := ⟨some 30, _, _, _, _, _⟩) (v := ?v5) rfl (by kernel_rfl) (by kernel_rfl) (by kernel_rfl) (fun _ _ _ h => h) (Or.inl ⟨rfl, ?c5⟩) hH ?r5
    case c5 => (intro w' _; go_simp; (try with_reducible rfl))
    try simp only [Act.put, List.setIfInBounds_toArray, List.set_cons_zero, List.set_cons_succ]
    refine wpAnyH_take (i := 5) (oi := ⟨some 31, _, _, _, _, _⟩) (v := ?v6) rfl (by kernel_rfl) (by kernel_rfl) (by kernel_rfl) (fun _ _ _ h => h) (Or.inl ⟨rfl, ?c6⟩) hH ?r6
    case c6 => (intro w' _; go_simp; (try with_reducible rfl))
    try simp only [Act.put, List.setIfInBounds_toArray, List.set_cons_zero, List.set_cons_succ]
    refine wpAnyH_take (i := 6) (oi := ⟨some 32, _, _, _, _, _⟩) (v := ?v7) rfl (by kernel_rfl) (by kernel_rfl) (by kernel_rfl) (fun _ _ _ h => h) (Or.inl ⟨rfl, ?c7⟩) hH ?r7
    case c7 => (intro w' hS; (try dsimp only at hS); go_simp; (try with_reducible rfl))
    try simp only [Act.put, List.setIfInBounds_toArray, List.set_cons_zero, List.set_cons_succ]
    refine wpAnyH_take (i := 7) (oi := ⟨some 33, _, _, _, _, _⟩) (v := ?v8) rfl (by kernel_rfl) (by kernel_rfl) (by kernel_rfl) (fun _ _ _ h => h) (Or.inl ⟨rfl, ?c8⟩) hH ?r8
    case c8 => (intro w' _; go_simp; (try with_reducible rfl))
    try simp only [Act.put, List.setIfInBounds_toArray, List.set_cons_zero, List.set_cons_succ]
    refine wpAnyH_take (i := 8) (oi := ⟨some 34, _, _, _, _, _⟩) (v := ?v9) rfl (by kernel_rfl) (by kernel_rfl) (by kernel_rfl) (fun _ _ _ h => h) (Or.inl ⟨rfl, ?c9⟩) hH ?r9
    case c9 => (intro w' _; go_simp; (try with_reducible rfl))
    try simp only [Act.put, List.setIfInBounds_toArray, List.set_cons_zero, List.set_cons_succ]
    refine wpAnyH_take (i := 9) (oi := ⟨some 35, _, _, _, _, _⟩) (v := ?v10) rfl (by kernel_rfl) (by kernel_rfl) (by kernel_rfl) (fun _ _ _ h => h) (Or.inl ⟨rfl, ?c10⟩) hH ?r10
    case c10 => (intro w' _; go_simp; (try with_reducible rfl))
    try simp only [Act.put, List.setIfInBounds_toArray, List.set_cons_zero, List.set_cons_succ]
    refine wpAnyH_take (i := 10) (oi := ⟨some 36, _, _, _, _, _⟩) (v := ?v11) rfl (by kernel_rfl) (by kernel_rfl) (by kernel_rfl) (fun _ _ _ h => h) (Or.inl ⟨rfl, ?c11⟩) hH ?r11
    case c11 => (intro w' hS; (try dsimp only at hS); go_simp; (try with_reducible rfl))
    try simp only [Act.put, List.setIfInBounds_toArray, List.set_cons_zero, List.set_cons_succ]
    refine wpAnyH_take (i := 11) (oi := ⟨some 37, _, _, _, _, _⟩) (v := ?v12) rfl (by kernel_rfl) (by kernel_rfl) (by kernel_rfl) (fun _ _ _ h => h) (Or.inl ⟨rfl, ?c12⟩) hH ?r12
    case c12 => (intro w' _; go_simp; (try with_reducible rfl))
    try simp only [Act.put, List.setIfInBounds_toArray, List.set_cons_zero, List.set_cons_succ]
    refine wpAnyH_take (i := 12) (oi := ⟨some 38, _, _, _, _, _⟩) (v := ?v13) rfl (by kernel_rfl) (by kernel_rfl) (by kernel_rfl) (fun _ _ _ h => h) (Or.inl ⟨rfl, ?c13⟩) hH ?r13
    case c13 => (intro w' _; go_simp; (try with_reducible rfl))
    try simp only [Act.put, List.setIfInBounds_toArray, List.set_cons_zero, List.set_cons_succ]
    refine wpAnyH_take (i := 13) (oi := ⟨some 39, _, _, _, _, _⟩) (v := ?v14) rfl (by kernel_rfl) (by kernel_rfl) (by kernel_rfl) (fun _ _ _ h => h) (Or.inl ⟨rfl, ?c14⟩) hH ?r14
    case c14 => (intro w' _; go_simp; (try with_reducible rfl))
    try simp only [Act.put, List.setIfInBounds_toArray, List.set_cons_zero, List.set_cons_succ]
    refine wpAnyH_take (i := 14) (oi := ⟨some 40, _, _, _, _, _⟩) (v := ?v15) rfl (by kernel_rfl) (by kernel_rfl) (by kernel_rfl) (fun _ _ _ h => h) (Or.inl ⟨rfl, ?c15⟩) hH ?r15
    case c15 => (intro w' hS; (try dsimp only at hS); go_simp; (try with_reducible rfl))
    try simp only [Act.put, List.setIfInBounds_toArray, List.set_cons_zero, List.set_cons_succ]
    refine wpAnyH_take (i := 15) (oi := ⟨some 41, _, _, _, _, _⟩) (v := ?v16) rfl (by kernel_rfl) (by kernel_rfl) (by kernel_rfl) (fun _ _ _ h => h) (Or.inl ⟨rfl, ?c16⟩) hH ?r16
    case c16 => (intro w' _; go_simp; (try with_reducible rfl))
    try simp only [Act.put, List.setIfInBounds_toArray, List.set_cons_zero, List.set_cons_succ]
    refine wpAnyH_ready (rs := [16]) (by kernel_rfl) (by simp) (AllReadyH.cons rfl (fun K hK => ?_) (AllReadyH.nil))
    go_simp
    go_at_call 166
    refine (rulesPlace_any H3.out.drew HF.out.cn (vG (lookV S.ms 0) + 1) HVB.out).mono ?_
    rintro e w4 ⟨rfl, hy⟩
    refine hK.out _ _ (⟨hy.cell 0 (ptr b.B) (fun _ _ => rfl), hy.shared 18 (ptr b.mb) (fun _ => rfl), hy.cell 1 (.int .i64 r.t) (fun _ _ => rfl)⟩) (fun hH => ?_)
    clear hK K
    have H4 := Lib.hid hy
    clear hy H3
    try simp only [Act.put, List.setIfInBounds_toArray, List.set_cons_zero, List.set_cons_succ]
    refine wpAnyH_ready (rs := [17]) (by kernel_rfl) (by simp) (AllReadyH.cons rfl (fun K hK => ?_) (AllReadyH.nil))
    go_simp
    go_at_call 165
    refine (H4.out.does (fun Om h => Me.write_any h r.t ((b.C.n : Int) + (vG (lookV S.ms 0) + 1)) HL.out)).mono ?_
    rintro e w5 ⟨rfl, hy⟩
    refine hK.out _ _ (⟨hy.cell 0 (ptr b.B) (fun _ _ => rfl), hy.shared 18 (ptr b.mb) (fun _ => rfl), hy.cell 1 (.int .i64 r.t) (fun _ _ => rfl)⟩) (fun hH => ?_)
    clear hK K
    have H5 := Lib.hid hy
    clear hy H4
    try simp only [Act.put, List.setIfInBounds_toArray, List.set_cons_zero, List.set_cons_succ]
    refine wpAnyH_done (by kernel_rfl) ?_ _
    clear hH
    go_wp2_with fail
    obtain ⟨Om, Ot, Kf, pv, lv, kv, HYR⟩ := H5.out
    obtain ⟨A, n, cc, rfl⟩ : ∃ A n cc, lv = .slice A n cc := by
      obtain ⟨⟨A, cc, e, _⟩, _⟩ := HYR.lis
      exact ⟨A, _, cc, e⟩
    have HPU : Hid (∃ w', (Instr.mapUpdate 81 (.map (some b.rm)) (.int .i64 (vG (lookV S.ms 0) + 1)) (.slice A n cc)).run Tryz.prog w5.drew = .ok () w' ∧ Y b (writeS b.C (ldS S r 0) (ldG S r)) (ldG S r) w') := by
      have HD := HYR.next (Below.refl _ w5).drew
      obtain ⟨w', h1, h2, h3⟩ := HD.map.put (fun e => (HD.dk _ e).1 (.inr (.inr (.inr (.inl rfl))))) (vG (lookV S.ms 0) + 1) HD.lis
      exact ⟨w', h1, _, _, _, _, _, _, HD.rules h3 h2⟩
    have z0 := HYR.run.cell 0 (ptr b.B) rfl
    have z1 := HYR.blk.cell 20 (.map (some b.rm)) rfl
    have z2 := HYR.run.cell 11 (.slice A n cc) rfl
    clear HYR H5
    refine region_e (S := fun w' => w'.cell? ⟨b.g, 0, none⟩ = some (ptr b.B) ∧ w'.cell? ⟨b.B, 20, none⟩ = some (.map (some b.rm)) ∧ w'.cell? ⟨b.g, 11, none⟩ = some (.slice A n cc)) 12 (by kernel_rfl) (⟨z0, z1, z2⟩) (fun hH => ?_)
    refine anyE_take (i := 0) (oi := ⟨some 44, _, _, _, _, _⟩) (v := ?v17) rfl (by kernel_rfl) (by kernel_rfl) (by kernel_rfl) (by kernel_rfl) (fun _ _ _ h => h) (Or.inl ⟨rfl, ?c17⟩) hH ?r17
    case c17 => (intro w' _; go_simp; (try with_reducible rfl))
    try simp only [Act.put, List.setIfInBounds_toArray, List.set_cons_zero, List.set_cons_succ]
    refine anyE_take (i := 1) (oi := ⟨some 45, _, _, _, _, _⟩) (v := ?v18) rfl (by kernel_rfl) (by kernel_rfl) (by kernel_rfl) (by kernel_rfl) (fun _ _ _ h => h) (Or.inl ⟨rfl, ?c18⟩) hH ?r18
    case c18 => (intro w' _; go_simp; (try with_reducible rfl))
    try simp only [Act.put, List.setIfInBounds_toArray, List.set_cons_zero, List.set_cons_succ]
    refine anyE_take (i := 2) (oi := ⟨some 46, _, _, _, _, _⟩) (v := ?v19) rfl (by kernel_rfl) (by kernel_rfl) (by kernel_rfl) (by kernel_rfl) (fun _ _ _ h => h) (Or.inl ⟨rfl, ?c19⟩) hH ?r19
    case c19 => (intro w' _; go_simp; (try with_reducible rfl))
    try simp only [Act.put, List.setIfInBounds_toArray, List.set_cons_zero, List.set_cons_succ]
    refine anyE_take (i := 3) (oi := ⟨some 47, _, _, _, _, _⟩) (v := ?v20) rfl (by kernel_rfl) (by kernel_rfl) (by kernel_rfl) (by kernel_rfl) (fun _ _ _ h => h) (Or.inl ⟨rfl, ?c20⟩) hH ?r20
    case c20 => (intro w' hS; (try dsimp only at hS); go_simp; (try with_reducible rfl))
    try simp only [Act.put, List.setIfInBounds_toArray, List.set_cons_zero, List.set_cons_succ]
    refine anyE_take (i := 4) (oi := ⟨some 48, _, _, _, _, _⟩) (v := ?v21) rfl (by kernel_rfl) (by kernel_rfl) (by kernel_rfl) (by kernel_rfl) (fun _ _ _ h => h) (Or.inl ⟨rfl, ?c21⟩) hH ?r21
    case c21 => (intro w' _; go_simp; (try with_reducible rfl))
    try simp only [Act.put, List.setIfInBounds_toArray, List.set_cons_zero, List.set_cons_succ]
    refine anyE_take (i := 5) (oi := ⟨some 49, _, _, _, _, _⟩) (v := ?v22) rfl (by kernel_rfl) (by kernel_rfl) (by kernel_rfl) (by kernel_rfl) (fun _ _ _ h => h) (Or.inl ⟨rfl, ?c22⟩) hH ?r22
    case c22 => (intro w' _; go_simp; (try with_reducible rfl))
    try simp only [Act.put, List.setIfInBounds_toArray, List.set_cons_zero, List.set_cons_succ]
    refine anyE_take (i := 6) (oi := ⟨some 50, _, _, _, _, _⟩) (v := ?v23) rfl (by kernel_rfl) (by kernel_rfl) (by kernel_rfl) (by kernel_rfl) (fun _ _ _ h => h) (Or.inl ⟨rfl, ?c23⟩) hH ?r23
    case c23 => (intro w' hS; (try dsimp only at hS); go_simp; (try with_reducible rfl))
    try simp only [Act.put, List.setIfInBounds_toArray, List.set_cons_zero, List.set_cons_succ]
    refine anyE_take (i := 7) (oi := ⟨some 51, _, _, _, _, _⟩) (v := ?v24) rfl (by kernel_rfl) (by kernel_rfl) (by kernel_rfl) (by kernel_rfl) (fun _ _ _ h => h) (Or.inl ⟨rfl, ?c24⟩) hH ?r24
    case c24 => (intro w' _; go_simp; (try with_reducible rfl))
    try simp only [Act.put, List.setIfInBounds_toArray, List.set_cons_zero, List.set_cons_succ]
    refine anyE_take (i := 8) (oi := ⟨some 52, _, _, _, _, _⟩) (v := ?v25) rfl (by kernel_rfl) (by kernel_rfl) (by kernel_rfl) (by kernel_rfl) (fun _ _ _ h => h) (Or.inl ⟨rfl, ?c25⟩) hH ?r25
    case c25 => (intro w' _; go_simp; (try with_reducible rfl))
    try simp only [Act.put, List.setIfInBounds_toArray, List.set_cons_zero, List.set_cons_succ]
    refine anyE_take (i := 9) (oi := ⟨some 53, _, _, _, _, _⟩) (v := ?v26) rfl (by kernel_rfl) (by kernel_rfl) (by kernel_rfl) (by kernel_rfl) (fun _ _ _ h => h) (Or.inl ⟨rfl, ?c26⟩) hH ?r26
    case c26 => (intro w' _; go_simp; (try with_reducible rfl))
    try simp only [Act.put, List.setIfInBounds_toArray, List.set_cons_zero, List.set_cons_succ]
    refine anyE_take (i := 10) (oi := ⟨some 54, _, _, _, _, _⟩) (v := ?v27) rfl (by kernel_rfl) (by kernel_rfl) (by kernel_rfl) (by kernel_rfl) (fun _ _ _ h => h) (Or.inl ⟨rfl, ?c27⟩) hH ?r27
    case c27 => (intro w' _; go_simp; (try with_reducible rfl))
    try simp only [Act.put, List.setIfInBounds_toArray, List.set_cons_zero, List.set_cons_succ]
    refine anyE_take (i := 11) (oi := ⟨some 55, _, _, _, _, _⟩) (v := ?v28) rfl (by kernel_rfl) (by kernel_rfl) (by kernel_rfl) (by kernel_rfl) (fun _ _ _ h => h) (Or.inl ⟨rfl, ?c28⟩) hH ?r28
    case c28 => (intro w' hS; (try dsimp only at hS); go_simp; (try with_reducible rfl))
    try simp only [Act.put, List.setIfInBounds_toArray, List.set_cons_zero, List.set_cons_succ]
    refine anyE_ready (rs := [12]) (by kernel_rfl) (by simp) (AllE.end_ rfl (fun K hK => ?_))
    obtain ⟨w6, hrun, hy⟩ := HPU.out
    have H6 := Lib.hid hy
    go_simp
    clear hy HPU hrun
    refine hK.out _ _ ?_
    clear hK K
    try simp only [Act.put, List.setIfInBounds_toArray, List.set_cons_zero, List.set_cons_succ]
    refine anyE_done (by kernel_rfl) ?_ _
    clear hH
    go_wp2_with fail
    go_at_call 37
    refine (then_any H6.out .publish _ rfl).mono ?_
    rintro e w7 ⟨rfl, hy⟩
    have H7 := Lib.hid hy
    clear hy
    go_wp2_with fail
    go_end0
    exact ⟨rfl, H7.out⟩
set_option maxHeartbeats 4000000 in
theorem publish_act (H : Y b S r W) (hr : Rm 9 S) (hF : Fit b.C S r) (he : Env b.w0) : Calls Tryz.prog 167 #[ptr b.g] W (Yd b U ((publishA S r).1) ((publishA S r).2)) := by
  have HR := Lib.hid hr
  have HF := Lib.hid hF
  have HE := Lib.hid he
  have H0 := Lib.hid H
  have HN := Lib.hid (w_swap hF.wg)
  have HSG := Lib.hid (fun W he => swapG hF.wg W he)
  have HVS := Lib.hid (vG_swap hF.wg)
  have HUN : Hid (∀ W, Env W → Calls Tryz.prog 46 #[.int .u64 (swapW r.wg)] W fun e w' => e = .returned (.agg #[.int .i64 (swapV r.wg), .int .i64 (kG (swapW r.wg)), .int .i64 (cG (swapW r.wg))]) ∧ Below W.heap.size W w') := fun W he => by have := unpackG HN.out W he; rwa [HVS.out] at this
  have hvb : 0 ≤ swapV r.wg ∧ swapV r.wg ≤ 4096 := by have h0 := (fitG hF.wg).v0; have h1 := (fitG hF.wg).v1; unfold swapV; split <;> omega
  cases hz : swapB S.ms 0 r.wg
  · rw [show publishA S r = (swS S r 0 r.wg (swapW r.wg), goto r .prepare) by unfold publishA; rw [hz]; rfl]
    have HZ : Hid (swapB S.ms 0 r.wg = false) := hz
    have y0 := H0.out.cell 35 (.int .u64 r.wg) (fun _ _ => rfl)
    clear hz hvb H hr hF he
    go_enter Tryz.func167, Tryz.ntmps167
    go_wp2_with fail
    go_at_call 163
    refine (HSG.out _ (H0.out.env HE.out)).mono ?_
    rintro e w1 ⟨rfl, hy⟩
    have H1 := Lib.hid (H0.out.next hy)
    clear hy y0 H0
    go_wp2_with fail
    have HSW := Lib.hid (swapGate_any H1.out (HR.out.mono (by omega)) _ HN.out)
    rw [HZ.out] at HSW
    go_at_call 111
    refine HSW.out.mono ?_
    rintro e w2 ⟨rfl, hy⟩
    have H2 := Lib.hid hy
    clear hy HSW H1
    go_wp2_with fail
    go_at_call 37
    refine (then_any H2.out .prepare _ rfl).mono ?_
    rintro e w4 ⟨rfl, hy⟩
    have H4 := Lib.hid hy
    clear hy
    go_wp2_with fail
    go_end0
    exact ⟨rfl, H4.out⟩
  · rw [show publishA S r = (say { swS S r 0 r.wg (swapW r.wg) with rl := setL S.rl (swapV r.wg - 1) [] } r 6 k0 0 (swapV r.wg), { r with n := swapV r.wg, at_ := .disclaim }) by unfold publishA; rw [hz]; rfl]
    have HZ : Hid (swapB S.ms 0 r.wg = true) := hz
    have y0 := H0.out.cell 35 (.int .u64 r.wg) (fun _ _ => rfl)
    have HRM : Hid (Rm 0 { swS S r 0 r.wg (swapW r.wg) with rl := setL S.rl (swapV r.wg - 1) [] }) := by have h := (hr.sw (r := r) 0 r.wg (swapW r.wg)).mono (Nat.zero_le _); exact ⟨h.l, h.f, h.p, h.w⟩
    clear hz H hr hF he
    go_enter Tryz.func167, Tryz.ntmps167
    go_wp2_with fail
    go_at_call 163
    refine (HSG.out _ (H0.out.env HE.out)).mono ?_
    rintro e w1 ⟨rfl, hy⟩
    have H1 := Lib.hid (H0.out.next hy)
    clear hy y0 H0
    go_wp2_with fail
    have HSW := Lib.hid (swapGate_any H1.out (HR.out.mono (by omega)) _ HN.out)
    rw [HZ.out] at HSW
    go_at_call 111
    refine HSW.out.mono ?_
    rintro e w2 ⟨rfl, hy⟩
    have H2 := Lib.hid hy
    clear hy HSW H1
    go_wp2_with fail
    go_at_call 46
    refine (HUN.out _ (H2.out.env HE.out)).mono ?_
    rintro e w3 ⟨rfl, hy⟩
    have H3 := Lib.hid (H2.out.next hy)
    clear hy H2
    obtain ⟨w4, hrun, hy4⟩ : ∃ w', (Builtin.delete_ #[81, 3] 0 #[.map (some b.rm), .int .i64 (swapV r.wg - 1)]).run Tryz.prog w3 = .ok (.tuple #[]) w' ∧ Y b { swS S r 0 r.wg (swapW r.wg) with rl := setL S.rl (swapV r.wg - 1) [] } r w' := by
      obtain ⟨Om, Ot, Kf, pv, lv, kv, HYR⟩ := H3.out
      obtain ⟨w', h1, h2, h3⟩ := HYR.map.drop (fun e => (HYR.dk _ e).1 (.inr (.inr (.inr (.inl rfl))))) (swapV r.wg - 1) 0
      exact ⟨w', h1, _, _, _, _, _, _, HYR.rules h3 h2⟩
    have H4 := Lib.hid hy4
    have q0 := gate_v (swapV r.wg) (kG (swapW r.wg)) (cG (swapW r.wg))
    have z0 := H3.out.cell 0 (ptr b.B) (fun _ _ => rfl)
    have z1 := H3.out.shared 20 (.map (some b.rm)) (fun _ => rfl)
    clear hy4 H3
    go_wp2_with fail
    go_at_call 44
    refine (record0 H4.out HRM.out 6 0 (swapV r.wg)).mono ?_
    rintro e w5 ⟨rfl, hy⟩
    have H5 := Lib.hid hy
    clear hy q0 z0 z1 hrun H4
    have HS := Lib.hid (H5.out.set (r' := { r with n := swapV r.wg }) 9 (.int .i64 (swapV r.wg)) (fun _ _ => rfl) rfl rfl)
    have q0 := H5.out.frozen 9
    have q1 := H5.out.cell 9 (.int .i64 r.n) (fun _ _ => rfl)
    clear H5
    go_wp2_with fail
    go_at_call 37
    refine (then_any HS.out .disclaim _ rfl).mono ?_
    rintro e w7 ⟨rfl, hy⟩
    have H7 := Lib.hid hy
    clear hy
    go_wp2_with fail
    go_end0
    exact ⟨rfl, H7.out⟩
end
end Pg
end Go.Proofs.YtcockldefmmhbaaGreatDoor
