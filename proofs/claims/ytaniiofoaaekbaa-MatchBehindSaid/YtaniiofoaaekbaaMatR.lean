/- Layer 13: the walk of MatchBehind. (Written by wip/tools/mkMatR.py.) -/
import Derived.Test.YtaniiofoaaekbaaMatQ
set_option linter.unusedVariables false
set_option linter.unusedSimpArgs false
namespace Go.Proofs.Ytaniiofoaaekbaa
open Go.ChangeShapes Go.WideShapes Go.ChangeAt Go.RowKit Go.Mtl Go.Lib
namespace Ma
open RulM (R)
open MatM (K k_of hitB fst fst_some fst_behind idxI accB accB_at accB_behind few few_ok few_len)

theorem few_same {rs : List R} {j : Nat} (h : j < (few rs).length) : (few rs)[j]? = rs[j]? := by
  unfold few at h ⊢
  split
  · rename_i h1
    rw [if_pos h1, List.length_take] at h
    exact List.getElem?_take_of_lt (by omega)
  · rfl
theorem few_take {rs : List R} {m : Nat} (h : m ≤ (few rs).length) : (few rs).take m = rs.take m := by
  unfold few at h ⊢
  split
  · rename_i h1
    rw [if_pos h1, List.length_take] at h
    rw [List.take_take, Nat.min_eq_left (by omega)]
  · rfl
theorem lit_own0 (w : World) : (w.alloc (.cells #[] 32)).drew.ownsRow w.heap.size 32 10 (.slice (some ⟨w.heap.size, 0, none⟩) 0 0) ([] : List R).length (cellsRs []) := by
  have := World.ownsRow_lit (e := 32) (size := 10) (base := w.heap.size) w #[] 0 (Nat.le_refl _) (by unfold maxLen; decide) rfl
  exact this
theorem ten_of {w : World} {b off n c : Nat} {rs : List R} (h : Rds w w.heap.size (.slice (some ⟨b, off, none⟩) n c) rs) {j : Nat} {q : R} (hq : rs[j]? = some q) (W : World) (hb : Below w.heap.size w W) : Ten W b (off + j * 10) q := by
  obtain ⟨b', off', cap, hv, hg, ht⟩ := ten_at h hq
  injection hv with hv1 _ _
  injection hv1 with hv1
  injection hv1 with hv1 hv2
  subst hv1 hv2
  exact ht.below hb hg

set_option maxRecDepth 100000 in
set_option maxHeartbeats 2000000 in
theorem behind_1 (A A2 : Option Addr) (n c n2 c2 : Nat) (rs ms : List R) (k : K) (w : World) (h0 : Rds w w.heap.size (.slice A n c) rs ∧ ∀ r ∈ rs, r.Ok) (hk : k.Ok) (hf : fst k (few rs) = none) :
    Calls Try.prog 5 #[.slice A n c, .slice A2 n2 c2, .agg #[.int .u8 (k.pr : Int), .int .u32 (k.sr : Int), .int .u32 (k.ds : Int), .int .u16 (k.sp : Int), .int .u16 (k.dp : Int), .int .u8 (k.fl : Int), .int .u8 (k.kd : Int)]] w fun e w' => e = .returned (.bool true) ∧ Below w.heap.size w w' := by
  obtain ⟨m, hm⟩ : ∃ m, (few rs).length = m := ⟨_, rfl⟩
  have HF := Lib.hid (fun W hb => few_of h0.1 m hm W hb)
  have H1 : Hid (∀ W, Below w.heap.size w W → Calls Try.prog 6 #[.slice A m c, .agg #[.int .u8 (k.pr : Int), .int .u32 (k.sr : Int), .int .u32 (k.ds : Int), .int .u16 (k.sp : Int), .int .u16 (k.dp : Int), .int .u8 (k.fl : Int), .int .u8 (k.kd : Int)]] W fun e w' => e = .returned (.tuple #[.int .i64 (-1), .bool false]) ∧ Below W.heap.size W w') := by
    show ∀ W, _ → _
    intro W hb
    have := first_of h0.1 h0.2 m hm k hk W hb
    rw [hf] at this
    exact this
  have HA := Lib.hid (fun W => awake_any W)
  have HS := Lib.hid (KAt.box w k)
  clear h0 hk hm hf
  go_enter Try.func5, Try.ntmps5
  go_wp2_with fail
  refine wp_region_held_drew (S := fun w' => Hid (KAt w w.heap.size k w')) (by kernel_rfl) (Lib.hid HS.out.drew) (fun hH => ?_)
  refine wpAnyH_take (i := 0) (oi := ⟨some 13, _, _, _, _, _⟩) (v := ?v1) rfl (by kernel_rfl) (by kernel_rfl) (by kernel_rfl) (fun _ _ _ h => h) (Or.inl ⟨rfl, ?c1⟩) hH ?r1
  case c1 => (intro w' _; go_simp; (try with_reducible rfl))
  try simp only [Act.put, List.setIfInBounds_toArray, List.set_cons_zero, List.set_cons_succ]
  refine wpAnyH_take (i := 2) (oi := ⟨some 15, _, _, _, _, _⟩) (v := ?v2) rfl (by kernel_rfl) (by kernel_rfl) (by kernel_rfl) (fun _ _ _ h => h) (Or.inl ⟨rfl, ?c2⟩) hH ?r2
  case c2 => (intro w' hS; obtain ⟨t0, t1, t2, t3, t4, t5, t6⟩ := hS.out.cells; go_simp; (try with_reducible rfl))
  try simp only [Act.put, List.setIfInBounds_toArray, List.set_cons_zero, List.set_cons_succ]
  refine wpAnyH_ready (rs := [1]) (by kernel_rfl) (by simp) (AllReadyH.cons rfl (fun K hK => ?_) (AllReadyH.nil))
  go_simp
  go_at_call 7
  refine (HF.out _ hH.out.bel).mono ?_
  rintro e w7 ⟨rfl, rfl⟩
  refine hK.out _ _ (hH) (fun hH => ?_)
  clear hK K
  try simp only [Act.put, List.setIfInBounds_toArray, List.set_cons_zero, List.set_cons_succ]
  refine wpAnyH_ready (rs := [3]) (by kernel_rfl) (by simp) (AllReadyH.cons rfl (fun K hK => ?_) (AllReadyH.nil))
  go_simp
  go_at_call 6
  refine (H1.out _ hH.out.bel).mono ?_
  rintro e w6 ⟨rfl, hbp⟩
  refine hK.out _ _ (Lib.hid (hH.out.next hbp)) (fun hH => ?_)
  clear hK K
  clear hbp
  try simp only [Act.put, List.setIfInBounds_toArray, List.set_cons_zero, List.set_cons_succ]
  refine wpAnyH_take (i := 4) (oi := ⟨some 12, _, _, _, _, _⟩) (v := ?v3) rfl (by kernel_rfl) (by kernel_rfl) (by kernel_rfl) (fun _ _ _ h => h) (Or.inl ⟨rfl, ?c3⟩) hH ?r3
  case c3 => (intro w' _; go_simp; (try with_reducible rfl))
  try simp only [Act.put, List.setIfInBounds_toArray, List.set_cons_zero, List.set_cons_succ]
  refine wpAnyH_take (i := 5) (oi := ⟨some 17, _, _, _, _, _⟩) (v := ?v4) rfl (by kernel_rfl) (by kernel_rfl) (by kernel_rfl) (fun _ _ _ h => h) (Or.inl ⟨rfl, ?c4⟩) hH ?r4
  case c4 => (intro w' _; go_simp; (try with_reducible rfl))
  try simp only [Act.put, List.setIfInBounds_toArray, List.set_cons_zero, List.set_cons_succ]
  refine wpAnyH_take (i := 6) (oi := ⟨some 18, _, _, _, _, _⟩) (v := ?v5) rfl (by kernel_rfl) (by kernel_rfl) (by kernel_rfl) (fun _ _ _ h => h) (Or.inl ⟨rfl, ?c5⟩) hH ?r5
  case c5 => (intro w' _; go_simp; (try with_reducible rfl))
  try simp only [Act.put, List.setIfInBounds_toArray, List.set_cons_zero, List.set_cons_succ]
  refine wpAnyH_take (i := 7) (oi := ⟨some 7, _, _, _, _, _⟩) (v := ?v6) rfl (by kernel_rfl) (by kernel_rfl) (by kernel_rfl) (fun _ _ _ h => h) (Or.inl ⟨rfl, ?c6⟩) hH ?r6
  case c6 => (intro w' _; go_simp; (try with_reducible rfl))
  try simp only [Act.put, List.setIfInBounds_toArray, List.set_cons_zero, List.set_cons_succ]
  refine wpAnyH_take (i := 8) (oi := ⟨some 8, _, _, _, _, _⟩) (v := ?v7) rfl (by kernel_rfl) (by kernel_rfl) (by kernel_rfl) (fun _ _ _ h => h) (Or.inl ⟨rfl, ?c7⟩) hH ?r7
  case c7 => (intro w' _; go_simp; (try with_reducible rfl))
  try simp only [Act.put, List.setIfInBounds_toArray, List.set_cons_zero, List.set_cons_succ]
  refine wpAnyH_done (by kernel_rfl) ?_ _
  have HS' := hH
  clear hH HS
  go_wp2_with fail
  go_at_call 9
  refine (HA.out _).mono ?_
  rintro e w7 ⟨rfl, hb7⟩
  have HT := Lib.hid (HS'.out.next hb7)
  clear hb7 HS'
  go_wp2_with fail
  go_ret
  exact ⟨rfl, HT.out.bel⟩

set_option maxRecDepth 100000 in
set_option maxHeartbeats 4000000 in
theorem behind_2 (b off : Nat) (A2 : Option Addr) (n c n2 c2 : Nat) (rs ms : List R) (k : K) (w : World) (h0 : Rds w w.heap.size (.slice (some ⟨b, off, none⟩) n c) rs ∧ ∀ r ∈ rs, r.Ok) (h1 : Rds w w.heap.size (.slice A2 n2 c2) ms ∧ ∀ r ∈ ms, r.Ok) (hk : k.Ok)
    (i : Nat) (r : R) (hf : fst k (few rs) = some i) (hri : rs[i]? = some r) (him : i < (few rs).length) (hh : hitB r k = true) (hbe : ∀ (j : Nat) q, j < i → rs[j]? = some q → hitB q k = false) :
    Calls Try.prog 5 #[.slice (some ⟨b, off, none⟩) n c, .slice A2 n2 c2, .agg #[.int .u8 (k.pr : Int), .int .u32 (k.sr : Int), .int .u32 (k.ds : Int), .int .u16 (k.sp : Int), .int .u16 (k.dp : Int), .int .u8 (k.fl : Int), .int .u8 (k.kd : Int)]] w fun e w' => e = .returned (.bool true) ∧ Below w.heap.size w w' := by
  have hn : rs.length = n := by obtain ⟨_, _, e, _⟩ := h0.1; injection e with _ e2 _; exact e2.symm
  have hnc : n ≤ c ∧ c ≤ 9223372036854775807 := by
    obtain ⟨_, _, e, h2, h3, _⟩ := h0.1
    injection e with _ e2 e3
    subst e3
    unfold maxLen at h3
    omega
  have hfl := few_len rs
  have hi : i < 100 := by omega
  have hin : i < n := by omega
  have hic : i + 1 ≤ c := by omega
  obtain ⟨m, hm⟩ : ∃ m, (few rs).length = m := ⟨_, rfl⟩
  obtain ⟨m2, hm2⟩ : ∃ m, (few ms).length = m := ⟨_, rfl⟩
  have hac : accB (few rs) (some i) = r.acc := accB_at ((few_same him).trans hri)
  have HF := Lib.hid (fun W hb => few_of h0.1 m hm W hb)
  have HF2 := Lib.hid (fun W hb => few_of h1.1 m2 hm2 W hb)
  have H1 : Hid (∀ W, Below w.heap.size w W → Calls Try.prog 6 #[.slice (some ⟨b, off, none⟩) m c, .agg #[.int .u8 (k.pr : Int), .int .u32 (k.sr : Int), .int .u32 (k.ds : Int), .int .u16 (k.sp : Int), .int .u16 (k.dp : Int), .int .u8 (k.fl : Int), .int .u8 (k.kd : Int)]] W fun e w' => e = .returned (.tuple #[.int .i64 (i : Int), .bool r.acc]) ∧ Below W.heap.size W w') := by
    show ∀ W, _ → _
    intro W hb
    have := first_of h0.1 h0.2 m hm k hk W hb
    rw [hf, hac] at this
    exact this
  have H2 : Hid (∀ v W, Rds W W.heap.size v (([] ++ rs.take (i + 1)) ++ few ms) → Calls Try.prog 6 #[v, .agg #[.int .u8 (k.pr : Int), .int .u32 (k.sr : Int), .int .u32 (k.ds : Int), .int .u16 (k.sp : Int), .int .u16 (k.dp : Int), .int .u8 (k.fl : Int), .int .u8 (k.kd : Int)]] W fun e w' => e = .returned (.tuple #[.int .i64 (i : Int), .bool r.acc]) ∧ Below W.heap.size W w') := by
    show ∀ v W, _ → _
    intro v W h
    rw [List.nil_append, ← few_take (show i + 1 ≤ (few rs).length by omega)] at h
    have := first_own h (by
        intro q hq
        rcases List.mem_append.1 hq with hq | hq
        · exact few_ok h0.2 q (List.mem_of_mem_take hq)
        · exact few_ok h1.2 q hq) (by have := few_len ms; simp only [List.length_append, List.length_take]; omega) k hk
    rw [fst_behind hf (Nat.lt_succ_self i), accB_behind him (Nat.lt_succ_self i), hac] at this
    exact this
  have HM : Hid (∀ W, Calls Try.prog 10 #[.agg #[.bool r.acc, .int .u8 (r.pr : Int), .int .u32 (r.sa : Int), .int .i64 r.sb, .int .u32 (r.da : Int), .int .i64 r.db, .int .u16 (r.sl : Int), .int .u16 (r.sh : Int), .int .u16 (r.dl : Int), .int .u16 (r.dh : Int)], .agg #[.int .u8 (k.pr : Int), .int .u32 (k.sr : Int), .int .u32 (k.ds : Int), .int .u16 (k.sp : Int), .int .u16 (k.dp : Int), .int .u8 (k.fl : Int), .int .u8 (k.kd : Int)]] W fun e w' => e = .returned (.bool true) ∧ Below W.heap.size W w') := by
    show ∀ W, _
    intro W
    have := matches_any r k (h0.2 r (List.mem_of_getElem? hri)) hk W
    rw [hh] at this
    exact this
  have HMB : Hid (∀ (j : Nat) q, j < i → rs[j]? = some q → ∀ W, Calls Try.prog 10 #[.agg #[.bool q.acc, .int .u8 (q.pr : Int), .int .u32 (q.sa : Int), .int .i64 q.sb, .int .u32 (q.da : Int), .int .i64 q.db, .int .u16 (q.sl : Int), .int .u16 (q.sh : Int), .int .u16 (q.dl : Int), .int .u16 (q.dh : Int)], .agg #[.int .u8 (k.pr : Int), .int .u32 (k.sr : Int), .int .u32 (k.ds : Int), .int .u16 (k.sp : Int), .int .u16 (k.dp : Int), .int .u8 (k.fl : Int), .int .u8 (k.kd : Int)]] W fun e w' => e = .returned (.bool false) ∧ Below W.heap.size W w') := by
    show ∀ (j : Nat) q, _ → _ → ∀ W, _
    intro j q hj hq W
    have := matches_any q k (h0.2 q (List.mem_of_getElem? hq)) hk W
    rw [hbe j q hj hq] at this
    exact this
  have HA := Lib.hid (fun W => awake_any W)
  have HW1 : Hid (IntKind.i64.wrap ((i : Int) + 1) = (i : Int) + 1) := by show _ = _; exact IntWalk.i64_in _ (by omega)
  have HIC : Hid (0 ≤ (i : Int) + 1 ∧ (i : Int) + 1 ≤ (c : Int)) := by show _ ∧ _; omega
  have HIN : Hid (i < rs.length) := by show _ < _; omega
  have HM2 := Lib.hid hm2
  have HTK : Hid ((rs.take (i + 1)).length = i + 1) := by show _ = _; rw [List.length_take]; omega
  have HLN : Hid (([] ++ rs.take (i + 1)).length + m2 ≤ 100000) := by show _ ≤ _; have := few_len ms; rw [List.nil_append, List.length_take]; omega
  have HRS := Lib.hid h0.1
  have HRT : Hid (∀ W, Below w.heap.size w W → Rds W W.heap.size (.slice (some ⟨b, off, none⟩) (i + 1) c) (rs.take (i + 1))) := by
    show ∀ W, _ → _
    intro W hb
    exact (h0.1.front (i + 1) (by omega)).below hb
  have HRF2 : Hid (∀ W, Below w.heap.size w W → Rds W W.heap.size (.slice A2 m2 c2) (few ms)) := by
    show ∀ W, _ → _
    intro W hb
    have := few_rds h1.1
    rw [hm2] at this
    exact this.below hb
  have HT := Lib.hid (ten_of h0.1 hri)
  have e3 : (r.acc == r.acc) = true := beq_self_eq_true _
  have hge : decide (n ≤ i) = false := decide_eq_false (by omega)
  have HS := Lib.hid (KAt.box w k)
  clear h0 h1 hk hm hm2 hf hri him hh hbe hn hfl hac
  go_enter Try.func5, Try.ntmps5
  go_wp2_with fail
  refine wp_region_held_drew (S := fun w' => Hid (KAt w w.heap.size k w')) (by kernel_rfl) (Lib.hid HS.out.drew) (fun hH => ?_)
  refine wpAnyH_take (i := 0) (oi := ⟨some 13, _, _, _, _, _⟩) (v := ?v1) rfl (by kernel_rfl) (by kernel_rfl) (by kernel_rfl) (fun _ _ _ h => h) (Or.inl ⟨rfl, ?c1⟩) hH ?r1
  case c1 => (intro w' _; go_simp; (try with_reducible rfl))
  try simp only [Act.put, List.setIfInBounds_toArray, List.set_cons_zero, List.set_cons_succ]
  refine wpAnyH_take (i := 2) (oi := ⟨some 15, _, _, _, _, _⟩) (v := ?v2) rfl (by kernel_rfl) (by kernel_rfl) (by kernel_rfl) (fun _ _ _ h => h) (Or.inl ⟨rfl, ?c2⟩) hH ?r2
  case c2 => (intro w' hS; obtain ⟨t0, t1, t2, t3, t4, t5, t6⟩ := hS.out.cells; go_simp; (try with_reducible rfl))
  try simp only [Act.put, List.setIfInBounds_toArray, List.set_cons_zero, List.set_cons_succ]
  refine wpAnyH_ready (rs := [1]) (by kernel_rfl) (by simp) (AllReadyH.cons rfl (fun K hK => ?_) (AllReadyH.nil))
  go_simp
  go_at_call 7
  refine (HF.out _ hH.out.bel).mono ?_
  rintro e w7 ⟨rfl, rfl⟩
  refine hK.out _ _ (hH) (fun hH => ?_)
  clear hK K
  try simp only [Act.put, List.setIfInBounds_toArray, List.set_cons_zero, List.set_cons_succ]
  refine wpAnyH_ready (rs := [3]) (by kernel_rfl) (by simp) (AllReadyH.cons rfl (fun K hK => ?_) (AllReadyH.nil))
  go_simp
  go_at_call 6
  refine (H1.out _ hH.out.bel).mono ?_
  rintro e w6 ⟨rfl, hbp⟩
  refine hK.out _ _ (Lib.hid (hH.out.next hbp)) (fun hH => ?_)
  clear hK K
  clear hbp
  try simp only [Act.put, List.setIfInBounds_toArray, List.set_cons_zero, List.set_cons_succ]
  refine wpAnyH_take (i := 4) (oi := ⟨some 12, _, _, _, _, _⟩) (v := ?v3) rfl (by kernel_rfl) (by kernel_rfl) (by kernel_rfl) (fun _ _ _ h => h) (Or.inl ⟨rfl, ?c3⟩) hH ?r3
  case c3 => (intro w' _; go_simp; (try with_reducible rfl))
  try simp only [Act.put, List.setIfInBounds_toArray, List.set_cons_zero, List.set_cons_succ]
  refine wpAnyH_take (i := 5) (oi := ⟨some 17, _, _, _, _, _⟩) (v := ?v4) rfl (by kernel_rfl) (by kernel_rfl) (by kernel_rfl) (fun _ _ _ h => h) (Or.inl ⟨rfl, ?c4⟩) hH ?r4
  case c4 => (intro w' _; go_simp; (try with_reducible rfl))
  try simp only [Act.put, List.setIfInBounds_toArray, List.set_cons_zero, List.set_cons_succ]
  refine wpAnyH_take (i := 6) (oi := ⟨some 18, _, _, _, _, _⟩) (v := ?v5) rfl (by kernel_rfl) (by kernel_rfl) (by kernel_rfl) (fun _ _ _ h => h) (Or.inl ⟨rfl, ?c5⟩) hH ?r5
  case c5 => (intro w' _; go_simp; (try with_reducible rfl))
  try simp only [Act.put, List.setIfInBounds_toArray, List.set_cons_zero, List.set_cons_succ]
  refine wpAnyH_take (i := 7) (oi := ⟨some 7, _, _, _, _, _⟩) (v := ?v6) rfl (by kernel_rfl) (by kernel_rfl) (by kernel_rfl) (fun _ _ _ h => h) (Or.inl ⟨rfl, ?c6⟩) hH ?r6
  case c6 => (intro w' _; go_simp; (try with_reducible rfl))
  try simp only [Act.put, List.setIfInBounds_toArray, List.set_cons_zero, List.set_cons_succ]
  refine wpAnyH_take (i := 8) (oi := ⟨some 8, _, _, _, _, _⟩) (v := ?v7) rfl (by kernel_rfl) (by kernel_rfl) (by kernel_rfl) (fun _ _ _ h => h) (Or.inl ⟨rfl, ?c7⟩) hH ?r7
  case c7 => (intro w' _; go_simp; (try with_reducible rfl))
  try simp only [Act.put, List.setIfInBounds_toArray, List.set_cons_zero, List.set_cons_succ]
  refine wpAnyH_done (by kernel_rfl) ?_ _
  clear HS
  have HS := hH
  clear hH
  go_wp2_with fail
  refine wp_region_held_drew (S := fun w' => Hid (KAt w w.heap.size k w')) (by kernel_rfl) (Lib.hid HS.out.drew) (fun hH => ?_)
  refine wpAnyH_take (i := 0) (oi := ⟨some 26, _, _, _, _, _⟩) (v := ?v101) rfl (by kernel_rfl) (by kernel_rfl) (by kernel_rfl) (fun _ _ _ h => h) (Or.inl ⟨rfl, ?c101⟩) hH ?r101
  case c101 => (intro w' _; go_simp; (try with_reducible rfl))
  try simp only [Act.put, List.setIfInBounds_toArray, List.set_cons_zero, List.set_cons_succ]
  refine wpAnyH_take (i := 1) (oi := ⟨some 27, _, _, _, _, _⟩) (v := ?v102) rfl (by kernel_rfl) (by kernel_rfl) (by kernel_rfl) (fun _ _ _ h => h) (Or.inl ⟨rfl, ?c102⟩) hH ?r102
  case c102 => (intro w' _; go_simp; (try with_reducible rfl))
  try simp only [Act.put, List.setIfInBounds_toArray, List.set_cons_zero, List.set_cons_succ]
  refine wpAnyH_take (i := 2) (oi := ⟨some 28, _, _, _, _, _⟩) (v := ?v103) rfl (by kernel_rfl) (by kernel_rfl) (by kernel_rfl) (fun _ _ _ h => h) (Or.inl ⟨rfl, ?c103⟩) hH ?r103
  case c103 => (intro w' _; go_simp; (try with_reducible rfl))
  try simp only [Act.put, List.setIfInBounds_toArray, List.set_cons_zero, List.set_cons_succ]
  refine wpAnyH_take (i := 3) (oi := ⟨some 29, _, _, _, _, _⟩) (v := ?v104) rfl (by kernel_rfl) (by kernel_rfl) (by kernel_rfl) (fun _ _ _ h => h) (Or.inl ⟨rfl, ?c104⟩) hH ?r104
  case c104 => (intro w' _; go_simp; (try with_reducible rfl))
  try simp only [Act.put, List.setIfInBounds_toArray, List.set_cons_zero, List.set_cons_succ]
  refine wpAnyH_take (i := 4) (oi := ⟨some 30, _, _, _, _, _⟩) (v := ?v105) rfl (by kernel_rfl) (by kernel_rfl) (by kernel_rfl) (fun _ _ _ h => h) (Or.inl ⟨rfl, ?c105⟩) hH ?r105
  case c105 => (intro w' _; go_simp; (try with_reducible rfl))
  try simp only [Act.put, List.setIfInBounds_toArray, List.set_cons_zero, List.set_cons_succ]
  refine wpAnyH_take (i := 5) (oi := ⟨some 31, _, _, _, _, _⟩) (v := ?v106) rfl (by kernel_rfl) (by kernel_rfl) (by kernel_rfl) (fun _ _ _ h => h) (Or.inl ⟨rfl, ?c106⟩) hH ?r106
  case c106 => (intro w' _; go_simp; (try with_reducible rfl))
  try simp only [Act.put, List.setIfInBounds_toArray, List.set_cons_zero, List.set_cons_succ]
  refine wpAnyH_take (i := 6) (oi := ⟨some 32, _, _, _, _, _⟩) (v := ?v107) rfl (by kernel_rfl) (by kernel_rfl) (by kernel_rfl) (fun _ _ _ h => h) (Or.inl ⟨rfl, ?c107⟩) hH ?r107
  case c107 => (intro w' _; go_simp; (try with_reducible rfl))
  try simp only [Act.put, List.setIfInBounds_toArray, List.set_cons_zero, List.set_cons_succ]
  refine wpAnyH_take (i := 7) (oi := ⟨some 33, _, _, _, _, _⟩) (v := ?v108) rfl (by kernel_rfl) (by kernel_rfl) (by kernel_rfl) (fun _ _ _ h => h) (Or.inl ⟨rfl, ?c108⟩) hH ?r108
  case c108 => (intro w' _; go_simp; (try with_reducible rfl))
  try simp only [Act.put, List.setIfInBounds_toArray, List.set_cons_zero, List.set_cons_succ]
  refine wpAnyH_take (i := 8) (oi := ⟨some 34, _, _, _, _, _⟩) (v := ?v109) rfl (by kernel_rfl) (by kernel_rfl) (by kernel_rfl) (fun _ _ _ h => h) (Or.inl ⟨rfl, ?c109⟩) hH ?r109
  case c109 => (intro w' hS; obtain ⟨t0, t1, t2, t3, t4, t5, t6, t7, t8, t9⟩ := HT.out _ hS.out.bel; go_simp; (try with_reducible rfl))
  try simp only [Act.put, List.setIfInBounds_toArray, List.set_cons_zero, List.set_cons_succ]
  refine wpAnyH_take (i := 9) (oi := ⟨some 35, _, _, _, _, _⟩) (v := ?v110) rfl (by kernel_rfl) (by kernel_rfl) (by kernel_rfl) (fun _ _ _ h => h) (Or.inl ⟨rfl, ?c110⟩) hH ?r110
  case c110 => (intro w' hS; obtain ⟨t0, t1, t2, t3, t4, t5, t6⟩ := hS.out.cells; go_simp; (try with_reducible rfl))
  try simp only [Act.put, List.setIfInBounds_toArray, List.set_cons_zero, List.set_cons_succ]
  refine wpAnyH_ready (rs := [10]) (by kernel_rfl) (by simp) (AllReadyH.cons rfl (fun K hK => ?_) (AllReadyH.nil))
  go_simp
  go_at_call 10
  refine (HM.out _).mono ?_
  rintro e w8 ⟨rfl, hbp⟩
  refine hK.out _ _ (Lib.hid (hH.out.next hbp)) (fun hH => ?_)
  clear hK K
  clear hbp
  try simp only [Act.put, List.setIfInBounds_toArray, List.set_cons_zero, List.set_cons_succ]
  refine wpAnyH_take (i := 11) (oi := ⟨some 37, _, _, _, _, _⟩) (v := ?v111) rfl (by kernel_rfl) (by kernel_rfl) (by kernel_rfl) (fun _ _ _ h => h) (Or.inl ⟨rfl, ?c111⟩) hH ?r111
  case c111 => (intro w' _; go_simp; (try with_reducible rfl))
  try simp only [Act.put, List.setIfInBounds_toArray, List.set_cons_zero, List.set_cons_succ]
  refine wpAnyH_take (i := 12) (oi := ⟨some 38, _, _, _, _, _⟩) (v := ?v112) rfl (by kernel_rfl) (by kernel_rfl) (by kernel_rfl) (fun _ _ _ h => h) (Or.inl ⟨rfl, ?c112⟩) hH ?r112
  case c112 => (intro w' _; go_simp; (try with_reducible rfl))
  try simp only [Act.put, List.setIfInBounds_toArray, List.set_cons_zero, List.set_cons_succ]
  refine wpAnyH_done (by kernel_rfl) ?_ _
  clear HS
  have HS := hH
  clear hH
  go_wp2_with fail
  go_loopw [9] (fun v wr => ∃ j : Nat, j ≤ i ∧ v = .int .i64 (j : Int) ∧ Hid (KAt w w.heap.size k wr)) (fun v _ => i - (RowKit.intOf v).toNat)
  case atStart => exact ⟨0, by omega, rfl, HS⟩
  case round =>
    obtain ⟨j, hj, rfl, HW⟩ := hrel
    clear HS
    by_cases hlt : j < i
    · obtain ⟨q, hqj⟩ : ∃ q, rs[j]? = some q := ⟨_, List.getElem?_eq_getElem (by have := HIN.out; omega)⟩
      have hjn : j < n := by omega
      have HTJ := Lib.hid (ten_of HRS.out hqj)
      have HMJ := Lib.hid (HMB.out j q hlt hqj)
      clear hqj
      go_wp2_with fail
      refine wp_region_held_drew (S := fun w' => Hid (KAt w w.heap.size k w')) (by kernel_rfl) (Lib.hid HW.out.drew) (fun hH => ?_)
      refine wpAnyH_take (i := 0) (oi := ⟨some 44, _, _, _, _, _⟩) (v := ?v201) rfl (by kernel_rfl) (by kernel_rfl) (by kernel_rfl) (fun _ _ _ h => h) (Or.inl ⟨rfl, ?c201⟩) hH ?r201
      case c201 => (intro w' _; go_simp; (try with_reducible rfl))
      try simp only [Act.put, List.setIfInBounds_toArray, List.set_cons_zero, List.set_cons_succ]
      refine wpAnyH_take (i := 1) (oi := ⟨some 45, _, _, _, _, _⟩) (v := ?v202) rfl (by kernel_rfl) (by kernel_rfl) (by kernel_rfl) (fun _ _ _ h => h) (Or.inl ⟨rfl, ?c202⟩) hH ?r202
      case c202 => (intro w' _; go_simp; (try with_reducible rfl))
      try simp only [Act.put, List.setIfInBounds_toArray, List.set_cons_zero, List.set_cons_succ]
      refine wpAnyH_take (i := 2) (oi := ⟨some 46, _, _, _, _, _⟩) (v := ?v203) rfl (by kernel_rfl) (by kernel_rfl) (by kernel_rfl) (fun _ _ _ h => h) (Or.inl ⟨rfl, ?c203⟩) hH ?r203
      case c203 => (intro w' _; go_simp; (try with_reducible rfl))
      try simp only [Act.put, List.setIfInBounds_toArray, List.set_cons_zero, List.set_cons_succ]
      refine wpAnyH_take (i := 3) (oi := ⟨some 47, _, _, _, _, _⟩) (v := ?v204) rfl (by kernel_rfl) (by kernel_rfl) (by kernel_rfl) (fun _ _ _ h => h) (Or.inl ⟨rfl, ?c204⟩) hH ?r204
      case c204 => (intro w' hS; obtain ⟨t0, t1, t2, t3, t4, t5, t6, t7, t8, t9⟩ := HTJ.out _ hS.out.bel; go_simp; (try with_reducible rfl))
      try simp only [Act.put, List.setIfInBounds_toArray, List.set_cons_zero, List.set_cons_succ]
      refine wpAnyH_take (i := 4) (oi := ⟨some 48, _, _, _, _, _⟩) (v := ?v205) rfl (by kernel_rfl) (by kernel_rfl) (by kernel_rfl) (fun _ _ _ h => h) (Or.inl ⟨rfl, ?c205⟩) hH ?r205
      case c205 => (intro w' hS; obtain ⟨t0, t1, t2, t3, t4, t5, t6⟩ := hS.out.cells; go_simp; (try with_reducible rfl))
      try simp only [Act.put, List.setIfInBounds_toArray, List.set_cons_zero, List.set_cons_succ]
      refine wpAnyH_ready (rs := [5]) (by kernel_rfl) (by simp) (AllReadyH.cons rfl (fun K hK => ?_) (AllReadyH.nil))
      go_simp
      go_at_call 10
      refine (HMJ.out _).mono ?_
      rintro e w8 ⟨rfl, hbp⟩
      refine hK.out _ _ (Lib.hid (hH.out.next hbp)) (fun hH => ?_)
      clear hK K
      clear hbp
      try simp only [Act.put, List.setIfInBounds_toArray, List.set_cons_zero, List.set_cons_succ]
      refine wpAnyH_done (by kernel_rfl) ?_ _
      have HWn := hH
      clear hH HW HMJ HTJ
      go_wp2_with fail
      go_roundw
      case rel => exact ⟨j + 1, by omega, by go_num, HWn⟩
      case measure => simp [RowKit.intOf]; omega
    · obtain rfl : i = j := by omega
      have HS := HW
      obtain ⟨w9, hw9⟩ : ∃ v, v = wr := ⟨_, rfl⟩
      rw [← hw9] at HS ⊢
      clear HW hw9
      go_wp2_with fail
      refine wp_region_held_drew (S := fun w' => Hid (KAt w w.heap.size k w')) (by kernel_rfl) (Lib.hid HS.out.drew) (fun hH => ?_)
      refine wpAnyH_take (i := 1) (oi := ⟨some 52, _, _, _, _, _⟩) (v := ?v301) rfl (by kernel_rfl) (by kernel_rfl) (by kernel_rfl) (fun _ _ _ h => h) (Or.inl ⟨rfl, ?c301⟩) hH ?r301
      case c301 => (intro w' _; go_simp; (try with_reducible rfl))
      try simp only [Act.put, List.setIfInBounds_toArray, List.set_cons_zero, List.set_cons_succ]
      refine wpAnyH_take (i := 2) (oi := ⟨some 53, _, _, _, _, _⟩) (v := ?v302) rfl (by kernel_rfl) (by kernel_rfl) (by kernel_rfl) (fun _ _ _ h => h) (Or.inl ⟨rfl, ?c302⟩) hH ?r302
      case c302 => (intro w' _; go_simp; (try with_reducible rfl))
      try simp only [Act.put, List.setIfInBounds_toArray, List.set_cons_zero, List.set_cons_succ]
      refine wpAnyH_take (i := 3) (oi := ⟨some 54, _, _, _, _, _⟩) (v := ?v303) rfl (by kernel_rfl) (by kernel_rfl) (by kernel_rfl) (fun _ _ _ h => h) (Or.inl ⟨rfl, ?c303⟩) hH ?r303
      case c303 => (intro w' _; go_simp; rw [HW1.out]; (try with_reducible rfl))
      try simp only [Act.put, List.setIfInBounds_toArray, List.set_cons_zero, List.set_cons_succ]
      refine wpAnyH_take (i := 4) (oi := ⟨some 55, _, _, _, _, _⟩) (v := ?v304) rfl (by kernel_rfl) (by kernel_rfl) (by kernel_rfl) (fun _ _ _ h => h) (Or.inl ⟨rfl, ?c304⟩) hH ?r304
      case c304 => (intro w' _; go_simp; rw [if_pos HIC.out]; (try with_reducible rfl))
      try simp only [Act.put, List.setIfInBounds_toArray, List.set_cons_zero, List.set_cons_succ]
      refine wpAnyH_take (i := 6) (oi := ⟨some 57, _, _, _, _, _⟩) (v := ?v305) rfl (by kernel_rfl) (by kernel_rfl) (by kernel_rfl) (fun _ _ _ h => h) (Or.inl ⟨rfl, ?c305⟩) hH ?r305
      case c305 => (intro w' _; go_simp; (try with_reducible rfl))
      try simp only [Act.put, List.setIfInBounds_toArray, List.set_cons_zero, List.set_cons_succ]
      refine wpAnyH_take (i := 9) (oi := ⟨some 60, _, _, _, _, _⟩) (v := ?v306) rfl (by kernel_rfl) (by kernel_rfl) (by kernel_rfl) (fun _ _ _ h => h) (Or.inl ⟨rfl, ?c306⟩) hH ?r306
      case c306 => (intro w' hS; obtain ⟨t0, t1, t2, t3, t4, t5, t6⟩ := hS.out.cells; go_simp; (try with_reducible rfl))
      try simp only [Act.put, List.setIfInBounds_toArray, List.set_cons_zero, List.set_cons_succ]
      refine wpAnyH_ready (rs := [0]) (by kernel_rfl) (by simp) (AllReadyH.cons rfl (fun K hK => ?_) (AllReadyH.nil))
      go_simp
      refine hK.out _ _ (Lib.hid (hH.out.next (below_box _ _))) (fun hH => ?_)
      clear hK K
      have HO : Hid (((w9.alloc (.cells #[] 32)).drew).ownsRow w9.heap.size 32 10 (.slice (some ⟨w9.heap.size, 0, none⟩) 0 0) ([] : List R).length (cellsRs [])) := lit_own0 w9
      have HBL : Hid (Below w9.heap.size w9 ((w9.alloc (.cells #[] 32)).drew)) := ((Below.refl w9.heap.size w9).alloc (Nat.le_refl _) _).drew
      generalize (w9.alloc (.cells #[] 32)).drew = w10 at hH HO HBL ⊢
      try simp only [Act.put, List.setIfInBounds_toArray, List.set_cons_zero, List.set_cons_succ]
      refine wpAnyH_ready (rs := [5]) (by kernel_rfl) (by simp) (AllReadyH.cons rfl (fun K hK => ?_) (AllReadyH.nil))
      refine step_append_rds w9 rfl (.tmp 51) (.tmp 55) rfl _ [] rfl HO.out HBL.out _ (some ⟨b, off, none⟩) (i + 1) c (rs.take (i + 1)) rfl HTK.out (HRT.out _ hH.out.bel) (by simp only [List.length_nil]; omega) ?_
      intro v11 w11 ho11 hb11
      change K (Act.put _ (some 56) _) _
      refine hK.out _ _ (Lib.hid (HS.out.next hb11.out)) (fun hH => ?_)
      clear hK K
      clear HO HBL
      try simp only [Act.put, List.setIfInBounds_toArray, List.set_cons_zero, List.set_cons_succ]
      refine wpAnyH_ready (rs := [7]) (by kernel_rfl) (by simp) (AllReadyH.cons rfl (fun K hK => ?_) (AllReadyH.nil))
      go_simp
      go_at_call 7
      refine (HF2.out _ hH.out.bel).mono ?_
      rintro e w7 ⟨rfl, rfl⟩
      refine hK.out _ _ (hH) (fun hH => ?_)
      clear hK K
      try simp only [Act.put, List.setIfInBounds_toArray, List.set_cons_zero, List.set_cons_succ]
      refine wpAnyH_ready (rs := [8]) (by kernel_rfl) (by simp) (AllReadyH.cons rfl (fun K hK => ?_) (AllReadyH.nil))
      refine step_append_rds w9 rfl (.tmp 56) (.tmp 58) rfl _ ([] ++ rs.take (i + 1)) rfl ho11.out hb11.out _ A2 m2 c2 (few ms) rfl HM2.out (HRF2.out _ hH.out.bel) HLN.out ?_
      intro v12 w12 ho12 hb12
      change K (Act.put _ (some 59) _) _
      refine hK.out _ _ (Lib.hid (HS.out.next hb12.out)) (fun hH => ?_)
      clear hK K
      have HR12 := Lib.hid (Rds.of_own ho12.out)
      clear ho11 hb11 ho12 hb12
      try simp only [Act.put, List.setIfInBounds_toArray, List.set_cons_zero, List.set_cons_succ]
      refine wpAnyH_ready (rs := [10]) (by kernel_rfl) (by simp) (AllReadyH.cons rfl (fun K hK => ?_) (AllReadyH.nil))
      go_simp
      go_at_call 6
      refine (H2.out _ _ HR12.out).mono ?_
      rintro e w13 ⟨rfl, hbp⟩
      refine hK.out _ _ (Lib.hid (hH.out.next hbp)) (fun hH => ?_)
      clear hK K
      clear hbp HR12
      try simp only [Act.put, List.setIfInBounds_toArray, List.set_cons_zero, List.set_cons_succ]
      refine wpAnyH_take (i := 11) (oi := ⟨some 50, _, _, _, _, _⟩) (v := ?v307) rfl (by kernel_rfl) (by kernel_rfl) (by kernel_rfl) (fun _ _ _ h => h) (Or.inl ⟨rfl, ?c307⟩) hH ?r307
      case c307 => (intro w' _; go_simp; (try with_reducible rfl))
      try simp only [Act.put, List.setIfInBounds_toArray, List.set_cons_zero, List.set_cons_succ]
      refine wpAnyH_take (i := 12) (oi := ⟨some 62, _, _, _, _, _⟩) (v := ?v308) rfl (by kernel_rfl) (by kernel_rfl) (by kernel_rfl) (fun _ _ _ h => h) (Or.inl ⟨rfl, ?c308⟩) hH ?r308
      case c308 => (intro w' _; go_simp; (try with_reducible rfl))
      try simp only [Act.put, List.setIfInBounds_toArray, List.set_cons_zero, List.set_cons_succ]
      refine wpAnyH_take (i := 13) (oi := ⟨some 63, _, _, _, _, _⟩) (v := ?v309) rfl (by kernel_rfl) (by kernel_rfl) (by kernel_rfl) (fun _ _ _ h => h) (Or.inl ⟨rfl, ?c309⟩) hH ?r309
      case c309 => (intro w' _; go_simp; (try with_reducible rfl))
      try simp only [Act.put, List.setIfInBounds_toArray, List.set_cons_zero, List.set_cons_succ]
      refine wpAnyH_take (i := 14) (oi := ⟨some 10, _, _, _, _, _⟩) (v := ?v310) rfl (by kernel_rfl) (by kernel_rfl) (by kernel_rfl) (fun _ _ _ h => h) (Or.inl ⟨rfl, ?c310⟩) hH ?r310
      case c310 => (intro w' _; go_simp; (try with_reducible rfl))
      try simp only [Act.put, List.setIfInBounds_toArray, List.set_cons_zero, List.set_cons_succ]
      refine wpAnyH_take (i := 15) (oi := ⟨some 11, _, _, _, _, _⟩) (v := ?v311) rfl (by kernel_rfl) (by kernel_rfl) (by kernel_rfl) (fun _ _ _ h => h) (Or.inl ⟨rfl, ?c311⟩) hH ?r311
      case c311 => (intro w' _; go_simp; (try with_reducible rfl))
      try simp only [Act.put, List.setIfInBounds_toArray, List.set_cons_zero, List.set_cons_succ]
      refine wpAnyH_done (by kernel_rfl) ?_ _
      clear HS
      go_wp2_with fail
      go_at_call 9
      refine (HA.out _).mono ?_
      rintro e w14 ⟨rfl, hb14⟩
      have HT14 := Lib.hid (hH.out.next hb14)
      obtain ⟨t0, t1, t2, t3, t4, t5, t6, t7, t8, t9⟩ := HT.out _ HT14.out.bel
      clear hb14 hH
      go_wp2_with fail
      go_ret
      exact ⟨rfl, HT14.out.bel⟩

theorem matchBehind_walk (A : Option Addr) (n c : Nat) (rs : List R) (A2 : Option Addr) (n2 c2 : Nat) (ms : List R) (p0 p1 p2 p3 p4 p5 p6 : Int) (w : World) (h0 : Rds w w.heap.size (.slice A n c) rs ∧ ∀ r ∈ rs, r.Ok) (h1 : Rds w w.heap.size (.slice A2 n2 c2) ms ∧ ∀ r ∈ ms, r.Ok)
    (hp : (0 ≤ p0 ∧ p0 ≤ 255) ∧ (0 ≤ p1 ∧ p1 ≤ 4294967295) ∧ (0 ≤ p2 ∧ p2 ≤ 4294967295) ∧ (0 ≤ p3 ∧ p3 ≤ 65535) ∧ (0 ≤ p4 ∧ p4 ≤ 65535) ∧ (0 ≤ p5 ∧ p5 ≤ 255) ∧ (0 ≤ p6 ∧ p6 ≤ 255)) :
    Calls Try.prog 5 #[.slice A n c, .slice A2 n2 c2, .agg #[.int .u8 p0, .int .u32 p1, .int .u32 p2, .int .u16 p3, .int .u16 p4, .int .u8 p5, .int .u8 p6]] w fun e w' => e = .returned (.bool true) ∧ Below w.heap.size w w' := by
  obtain ⟨k, hk, rfl, rfl, rfl, rfl, rfl, rfl, rfl⟩ := k_of hp
  cases hf : fst k (few rs) with
  | none => exact behind_1 A A2 n c n2 c2 rs ms k w h0 hk hf
  | some i =>
    obtain ⟨r, hr, hh, hb⟩ := fst_some hf
    have him := (List.getElem?_eq_some_iff.1 hr).1
    have hri := (few_same him).symm.trans hr
    obtain ⟨b, off, cap, hv, hg, ht⟩ := ten_at h0.1 hri
    injection hv with hv1 _ _
    subst hv1
    exact behind_2 b off A2 n c n2 c2 rs ms k w h0 h1 hk i r hf hri him hh (fun j q hj hq => hb j q hj ((few_same (by omega)).trans hq))
end Ma
end Go.Proofs.Ytaniiofoaaekbaa
