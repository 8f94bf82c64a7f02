/- Layer 13: the walk of MatchAhead. (Written by wip/tools/mkMatQ.py.) -/
import Derived.Test.YtaniiofoaaekbaaMatP
import Derived.Laws.OwnMore
set_option linter.unusedVariables false
set_option linter.unusedSimpArgs false
namespace Go.Proofs.Ytaniiofoaaekbaa
open Go.ChangeShapes Go.WideShapes Go.ChangeAt Go.RowKit Go.Mtl Go.Lib
namespace Ma
open RulM (R)
open MatM (K k_of hitB fst fst_some idxI accB few few_ok few_len ahead_yes ahead_no ahead_acc)

theorem lit_own (w : World) (r : R) : (w.alloc (.cells (rK r) 32)).drew.ownsRow w.heap.size 32 10 (.slice (some ⟨w.heap.size, 0, none⟩) 1 1) ([r] : List R).length (cellsRs [r]) := by
  have := World.ownsRow_lit (e := 32) (size := 10) (base := w.heap.size) w (rK r) 1 (Nat.le_refl _) (by unfold maxLen; decide) rfl
  exact this
theorem one_ok {r : R} {rs : List R} (h : r.Ok) (hs : ∀ r ∈ rs, r.Ok) : ∀ q ∈ [r] ++ rs, q.Ok := by
  intro q hq
  rcases List.mem_append.1 hq with hq | hq
  · rw [List.mem_singleton.1 hq]; exact h
  · exact hs q hq
theorem first_own {W : World} {v : Value} {xs : List R} (h : Rds W W.heap.size v xs) (ho : ∀ r ∈ xs, r.Ok) (hl : xs.length ≤ 100000) (k : K) (hk : k.Ok) :
    Calls Try.prog 6 #[v, .agg #[.int .u8 (k.pr : Int), .int .u32 (k.sr : Int), .int .u32 (k.ds : Int), .int .u16 (k.sp : Int), .int .u16 (k.dp : Int), .int .u8 (k.fl : Int), .int .u8 (k.kd : Int)]] W fun e w' => e = .returned (.tuple #[.int .i64 (idxI (fst k xs)), .bool (accB xs (fst k xs))]) ∧ Below W.heap.size W w' := by
  obtain ⟨A, c, rfl, _, _⟩ := h.len
  exact first_any A _ c xs k hk W rfl h ho (by unfold maxLen; omega)

set_option maxRecDepth 100000 in
set_option maxHeartbeats 2000000 in
theorem ahead_1 (A : Option Addr) (n c : Nat) (rs : List R) (r : R) (k : K) (w : World) (h0 : Rds w w.heap.size (.slice A n c) rs ∧ ∀ r ∈ rs, r.Ok) (ho : r.Ok) (hk : k.Ok) (hh : hitB r k = true) :
    Calls Try.prog 4 #[.slice A n c, .agg #[.bool r.acc, .int .u8 (r.pr : Int), .int .u32 (r.sa : Int), .int .i64 r.sb, .int .u32 (r.da : Int), .int .i64 r.db, .int .u16 (r.sl : Int), .int .u16 (r.sh : Int), .int .u16 (r.dl : Int), .int .u16 (r.dh : Int)], .agg #[.int .u8 (k.pr : Int), .int .u32 (k.sr : Int), .int .u32 (k.ds : Int), .int .u16 (k.sp : Int), .int .u16 (k.dp : Int), .int .u8 (k.fl : Int), .int .u8 (k.kd : Int)]] w fun e w' => e = .returned (.bool true) ∧ Below w.heap.size w w' := by
  obtain ⟨m, hm⟩ : ∃ m, (few rs).length = m := ⟨_, rfl⟩
  have HF := Lib.hid (fun W hb => few_of h0.1 m hm W hb)
  obtain ⟨b1, hb1⟩ : ∃ b, accB (few rs) (fst k (few rs)) = b := ⟨_, rfl⟩
  obtain ⟨x1, hx1⟩ : ∃ x, idxI (fst k (few rs)) = x := ⟨_, rfl⟩
  have H1 : Hid (∀ W, Below w.heap.size w W → Calls Try.prog 6 #[.slice A m c, .agg #[.int .u8 (k.pr : Int), .int .u32 (k.sr : Int), .int .u32 (k.ds : Int), .int .u16 (k.sp : Int), .int .u16 (k.dp : Int), .int .u8 (k.fl : Int), .int .u8 (k.kd : Int)]] W fun e w' => e = .returned (.tuple #[.int .i64 x1, .bool b1]) ∧ Below W.heap.size W w') := by
    show ∀ W, _ → _
    intro W hb
    have := first_of h0.1 h0.2 m hm k hk W hb
    rw [hx1, hb1] at this
    exact this
  have H2 : Hid (∀ v W, Rds W W.heap.size v ([r] ++ few rs) → Calls Try.prog 6 #[v, .agg #[.int .u8 (k.pr : Int), .int .u32 (k.sr : Int), .int .u32 (k.ds : Int), .int .u16 (k.sp : Int), .int .u16 (k.dp : Int), .int .u8 (k.fl : Int), .int .u8 (k.kd : Int)]] W fun e w' => e = .returned (.tuple #[.int .i64 0, .bool r.acc]) ∧ Below W.heap.size W w') := by
    show ∀ v W, _ → _
    intro v W h
    have := first_own h (one_ok ho (few_ok h0.2)) (by have := few_len rs; simp; omega) k hk
    rw [show [r] ++ few rs = r :: few rs from rfl, ahead_yes (few rs) hh] at this
    exact this
  have HH : Hid (∀ W, Calls Try.prog 10 #[.agg #[.bool r.acc, .int .u8 (r.pr : Int), .int .u32 (r.sa : Int), .int .i64 r.sb, .int .u32 (r.da : Int), .int .i64 r.db, .int .u16 (r.sl : Int), .int .u16 (r.sh : Int), .int .u16 (r.dl : Int), .int .u16 (r.dh : Int)], .agg #[.int .u8 (k.pr : Int), .int .u32 (k.sr : Int), .int .u32 (k.ds : Int), .int .u16 (k.sp : Int), .int .u16 (k.dp : Int), .int .u8 (k.fl : Int), .int .u8 (k.kd : Int)]] W fun e w' => e = .returned (.bool true) ∧ Below W.heap.size W w') := by
    show ∀ W, _
    intro W
    have := matches_any r k ho hk W
    rw [hh] at this
    exact this
  have HA := Lib.hid (fun W => awake_any W)
  have HM := Lib.hid hm
  have HLN : Hid (([r] : List R).length + m ≤ 100000) := by show _ ≤ _; have := few_len rs; simp; omega
  have HRF : Hid (∀ W, Below w.heap.size w W → Rds W W.heap.size (.slice A m c) (few rs)) := by
    show ∀ W, _ → _
    intro W hb
    have := few_rds h0.1
    rw [hm] at this
    exact this.below hb
  have e3 : (r.acc == r.acc) = true := beq_self_eq_true _
  have HS := Lib.hid (BK.mk (Two.box w r k).r (Two.box w r k).k)
  clear h0 hk ho hm hh hb1 hx1
  go_enter Try.func4, Try.ntmps4
  go_wp2_with fail
  refine wp_region_held_drew (S := fun w' => Hid (BK w w.heap.size (w.heap.size + 1) r k w')) (by kernel_rfl) (Lib.hid HS.out.drew) (fun hH => ?_)
  refine wpAnyH_take (i := 0) (oi := ⟨some 12, _, _, _, _, _⟩) (v := ?v1) rfl (by kernel_rfl) (by kernel_rfl) (by kernel_rfl) (fun _ _ _ h => h) (Or.inl ⟨rfl, ?c1⟩) hH ?r1
  case c1 => (intro w' _; go_simp; (try with_reducible rfl))
  try simp only [Act.put, List.setIfInBounds_toArray, List.set_cons_zero, List.set_cons_succ]
  refine wpAnyH_take (i := 2) (oi := ⟨some 14, _, _, _, _, _⟩) (v := ?v2) rfl (by kernel_rfl) (by kernel_rfl) (by kernel_rfl) (fun _ _ _ h => h) (Or.inl ⟨rfl, ?c2⟩) hH ?r2
  case c2 => (intro w' hS; obtain ⟨t0, t1, t2, t3, t4, t5, t6⟩ := hS.out.k.cells; go_simp; (try with_reducible rfl))
  try simp only [Act.put, List.setIfInBounds_toArray, List.set_cons_zero, List.set_cons_succ]
  refine wpAnyH_ready (rs := [1]) (by kernel_rfl) (by simp) (AllReadyH.cons rfl (fun K hK => ?_) (AllReadyH.nil))
  go_simp
  go_at_call 7
  refine (HF.out _ hH.out.k.bel).mono ?_
  rintro e w7 ⟨rfl, rfl⟩
  refine hK.out _ _ (hH) (fun hH => ?_)
  clear hK K
  try simp only [Act.put, List.setIfInBounds_toArray, List.set_cons_zero, List.set_cons_succ]
  refine wpAnyH_ready (rs := [3]) (by kernel_rfl) (by simp) (AllReadyH.cons rfl (fun K hK => ?_) (AllReadyH.nil))
  go_simp
  go_at_call 6
  refine (H1.out _ hH.out.k.bel).mono ?_
  rintro e w6 ⟨rfl, hbp⟩
  refine hK.out _ _ (Lib.hid (hH.out.next hbp)) (fun hH => ?_)
  clear hK K
  clear hbp
  try simp only [Act.put, List.setIfInBounds_toArray, List.set_cons_zero, List.set_cons_succ]
  refine wpAnyH_take (i := 4) (oi := ⟨some 11, _, _, _, _, _⟩) (v := ?v3) rfl (by kernel_rfl) (by kernel_rfl) (by kernel_rfl) (fun _ _ _ h => h) (Or.inl ⟨rfl, ?c3⟩) hH ?r3
  case c3 => (intro w' _; go_simp; (try with_reducible rfl))
  try simp only [Act.put, List.setIfInBounds_toArray, List.set_cons_zero, List.set_cons_succ]
  refine wpAnyH_take (i := 5) (oi := ⟨some 16, _, _, _, _, _⟩) (v := ?v4) rfl (by kernel_rfl) (by kernel_rfl) (by kernel_rfl) (fun _ _ _ h => h) (Or.inl ⟨rfl, ?c4⟩) hH ?r4
  case c4 => (intro w' _; go_simp; (try with_reducible rfl))
  try simp only [Act.put, List.setIfInBounds_toArray, List.set_cons_zero, List.set_cons_succ]
  refine wpAnyH_take (i := 6) (oi := ⟨some 17, _, _, _, _, _⟩) (v := ?v5) rfl (by kernel_rfl) (by kernel_rfl) (by kernel_rfl) (fun _ _ _ h => h) (Or.inl ⟨rfl, ?c5⟩) hH ?r5
  case c5 => (intro w' _; go_simp; (try with_reducible rfl))
  try simp only [Act.put, List.setIfInBounds_toArray, List.set_cons_zero, List.set_cons_succ]
  refine wpAnyH_take (i := 7) (oi := ⟨some 7, _, _, _, _, _⟩) (v := ?v6) rfl (by kernel_rfl) (by kernel_rfl) (by kernel_rfl) (fun _ _ _ h => h) (Or.inl ⟨rfl, ?c6⟩) hH ?r6
  case c6 => (intro w' _; go_simp; (try with_reducible rfl))
  try simp only [Act.put, List.setIfInBounds_toArray, List.set_cons_zero, List.set_cons_succ]
  refine wpAnyH_take (i := 8) (oi := ⟨some 8, _, _, _, _, _⟩) (v := ?v7) rfl (by kernel_rfl) (by kernel_rfl) (by kernel_rfl) (fun _ _ _ h => h) (Or.inl ⟨rfl, ?c7⟩) hH ?r7
  case c7 => (intro w' _; go_simp; (try with_reducible rfl))
  try simp only [Act.put, List.setIfInBounds_toArray, List.set_cons_zero, List.set_cons_succ]
  refine wpAnyH_done (by kernel_rfl) ?_ _
  clear HS
  have HS := hH
  clear hH
  go_wp2_with fail
  refine wp_region_held_drew (S := fun w' => Hid (BK w w.heap.size (w.heap.size + 1) r k w')) (by kernel_rfl) (Lib.hid HS.out.drew) (fun hH => ?_)
  refine wpAnyH_take (i := 0) (oi := ⟨some 19, _, _, _, _, _⟩) (v := ?v101) rfl (by kernel_rfl) (by kernel_rfl) (by kernel_rfl) (fun _ _ _ h => h) (Or.inl ⟨rfl, ?c101⟩) hH ?r101
  case c101 => (intro w' hS; obtain ⟨t0, t1, t2, t3, t4, t5, t6, t7, t8, t9⟩ := hS.out.r.cells; go_simp; (try with_reducible rfl))
  try simp only [Act.put, List.setIfInBounds_toArray, List.set_cons_zero, List.set_cons_succ]
  refine wpAnyH_take (i := 2) (oi := ⟨some 21, _, _, _, _, _⟩) (v := ?v102) rfl (by kernel_rfl) (by kernel_rfl) (by kernel_rfl) (fun _ _ _ h => h) (Or.inl ⟨rfl, ?c102⟩) hH ?r102
  case c102 => (intro w' _; go_simp; (try with_reducible rfl))
  try simp only [Act.put, List.setIfInBounds_toArray, List.set_cons_zero, List.set_cons_succ]
  refine wpAnyH_take (i := 5) (oi := ⟨some 24, _, _, _, _, _⟩) (v := ?v103) rfl (by kernel_rfl) (by kernel_rfl) (by kernel_rfl) (fun _ _ _ h => h) (Or.inl ⟨rfl, ?c103⟩) hH ?r103
  case c103 => (intro w' hS; obtain ⟨t0, t1, t2, t3, t4, t5, t6⟩ := hS.out.k.cells; go_simp; (try with_reducible rfl))
  try simp only [Act.put, List.setIfInBounds_toArray, List.set_cons_zero, List.set_cons_succ]
  refine wpAnyH_ready (rs := [1, 3]) (by kernel_rfl) (by simp) (AllReadyH.cons rfl (fun K hK => ?_) (AllReadyH.cons rfl (fun K hK => ?_) (AllReadyH.nil)))
  · go_simp
    refine hK.out _ _ (Lib.hid (hH.out.next (below_box _ _))) (fun hH => ?_)
    clear hK K
    have HO : Hid (((w6.alloc (.cells #[.bool r.acc, .int .u8 (r.pr : Int), .int .u32 (r.sa : Int), .int .i64 r.sb, .int .u32 (r.da : Int), .int .i64 r.db, .int .u16 (r.sl : Int), .int .u16 (r.sh : Int), .int .u16 (r.dl : Int), .int .u16 (r.dh : Int)] 32)).drew).ownsRow w6.heap.size 32 10 (.slice (some ⟨w6.heap.size, 0, none⟩) 1 1) ([r] : List R).length (cellsRs [r])) := lit_own w6 r
    have HBL : Hid (Below w6.heap.size w6 ((w6.alloc (.cells #[.bool r.acc, .int .u8 (r.pr : Int), .int .u32 (r.sa : Int), .int .i64 r.sb, .int .u32 (r.da : Int), .int .i64 r.db, .int .u16 (r.sl : Int), .int .u16 (r.sh : Int), .int .u16 (r.dl : Int), .int .u16 (r.dh : Int)] 32)).drew)) := ((Below.refl w6.heap.size w6).alloc (Nat.le_refl _) _).drew
    generalize (w6.alloc (.cells #[.bool r.acc, .int .u8 (r.pr : Int), .int .u32 (r.sa : Int), .int .i64 r.sb, .int .u32 (r.da : Int), .int .i64 r.db, .int .u16 (r.sl : Int), .int .u16 (r.sh : Int), .int .u16 (r.dl : Int), .int .u16 (r.dh : Int)] 32)).drew = w10 at hH HO HBL ⊢
    try simp only [Act.put, List.setIfInBounds_toArray, List.set_cons_zero, List.set_cons_succ]
    refine wpAnyH_ready (rs := [3]) (by kernel_rfl) (by simp) (AllReadyH.cons rfl (fun K hK => ?_) (AllReadyH.nil))
    go_simp
    go_at_call 7
    refine (HF.out _ hH.out.k.bel).mono ?_
    rintro e w7 ⟨rfl, rfl⟩
    refine hK.out _ _ (hH) (fun hH => ?_)
    clear hK K
    try simp only [Act.put, List.setIfInBounds_toArray, List.set_cons_zero, List.set_cons_succ]
    refine wpAnyH_ready (rs := [4]) (by kernel_rfl) (by simp) (AllReadyH.cons rfl (fun K hK => ?_) (AllReadyH.nil))
    refine step_append_rds w6 rfl (.tmp 20) (.tmp 22) rfl _ [r] rfl HO.out HBL.out _ A m c (few rs) rfl HM.out (HRF.out _ hH.out.k.bel) HLN.out ?_
    intro v11 w11 ho11 hb11
    change K (Act.put _ (some 23) _) _
    refine hK.out _ _ (Lib.hid (HS.out.next hb11.out)) (fun hH => ?_)
    clear hK K
    have HR11 := Lib.hid (Rds.of_own ho11.out)
    clear HO HBL ho11 hb11
    try simp only [Act.put, List.setIfInBounds_toArray, List.set_cons_zero, List.set_cons_succ]
    refine wpAnyH_ready (rs := [6]) (by kernel_rfl) (by simp) (AllReadyH.cons rfl (fun K hK => ?_) (AllReadyH.nil))
    go_simp
    go_at_call 6
    refine (H2.out _ _ HR11.out).mono ?_
    rintro e w12 ⟨rfl, hbp⟩
    refine hK.out _ _ (Lib.hid (hH.out.next hbp)) (fun hH => ?_)
    clear hK K
    clear hbp HR11
    try simp only [Act.put, List.setIfInBounds_toArray, List.set_cons_zero, List.set_cons_succ]
    refine wpAnyH_take (i := 7) (oi := ⟨some 18, _, _, _, _, _⟩) (v := ?v104) rfl (by kernel_rfl) (by kernel_rfl) (by kernel_rfl) (fun _ _ _ h => h) (Or.inl ⟨rfl, ?c104⟩) hH ?r104
    case c104 => (intro w' _; go_simp; (try with_reducible rfl))
    try simp only [Act.put, List.setIfInBounds_toArray, List.set_cons_zero, List.set_cons_succ]
    refine wpAnyH_take (i := 8) (oi := ⟨some 26, _, _, _, _, _⟩) (v := ?v105) rfl (by kernel_rfl) (by kernel_rfl) (by kernel_rfl) (fun _ _ _ h => h) (Or.inl ⟨rfl, ?c105⟩) hH ?r105
    case c105 => (intro w' _; go_simp; (try with_reducible rfl))
    try simp only [Act.put, List.setIfInBounds_toArray, List.set_cons_zero, List.set_cons_succ]
    refine wpAnyH_take (i := 9) (oi := ⟨some 27, _, _, _, _, _⟩) (v := ?v106) rfl (by kernel_rfl) (by kernel_rfl) (by kernel_rfl) (fun _ _ _ h => h) (Or.inl ⟨rfl, ?c106⟩) hH ?r106
    case c106 => (intro w' _; go_simp; (try with_reducible rfl))
    try simp only [Act.put, List.setIfInBounds_toArray, List.set_cons_zero, List.set_cons_succ]
    refine wpAnyH_take (i := 10) (oi := ⟨some 9, _, _, _, _, _⟩) (v := ?v107) rfl (by kernel_rfl) (by kernel_rfl) (by kernel_rfl) (fun _ _ _ h => h) (Or.inl ⟨rfl, ?c107⟩) hH ?r107
    case c107 => (intro w' _; go_simp; (try with_reducible rfl))
    try simp only [Act.put, List.setIfInBounds_toArray, List.set_cons_zero, List.set_cons_succ]
    refine wpAnyH_take (i := 11) (oi := ⟨some 10, _, _, _, _, _⟩) (v := ?v108) rfl (by kernel_rfl) (by kernel_rfl) (by kernel_rfl) (fun _ _ _ h => h) (Or.inl ⟨rfl, ?c108⟩) hH ?r108
    case c108 => (intro w' _; go_simp; (try with_reducible rfl))
    try simp only [Act.put, List.setIfInBounds_toArray, List.set_cons_zero, List.set_cons_succ]
    refine wpAnyH_done (by kernel_rfl) ?_ _
    clear HS
    obtain ⟨t0, t1, t2, t3, t4, t5, t6, t7, t8, t9⟩ := hH.out.r.cells
    obtain ⟨s0, s1, s2, s3, s4, s5, s6⟩ := hH.out.k.cells
    go_wp2_with fail
    go_at_call 10
    refine (HH.out _).mono ?_
    rintro e w13 ⟨rfl, hb13⟩
    have HT := Lib.hid (hH.out.next hb13)
    clear t0 t1 t2 t3 t4 t5 t6 t7 t8 t9 s0 s1 s2 s3 s4 s5 s6 hb13 hH
    have hH := HT
    clear HT
    go_wp2_with fail
    go_at_call 9
    refine (HA.out _).mono ?_
    rintro e w14 ⟨rfl, hb14⟩
    have HT := Lib.hid (hH.out.next hb14)
    clear hb14 hH
    obtain ⟨t0, t1, t2, t3, t4, t5, t6, t7, t8, t9⟩ := HT.out.r.cells
    go_wp2_with fail
    go_ret
    exact ⟨rfl, HT.out.k.bel⟩
  · go_simp
    go_at_call 7
    refine (HF.out _ hH.out.k.bel).mono ?_
    rintro e w7 ⟨rfl, rfl⟩
    refine hK.out _ _ (hH) (fun hH => ?_)
    clear hK K
    try simp only [Act.put, List.setIfInBounds_toArray, List.set_cons_zero, List.set_cons_succ]
    refine wpAnyH_ready (rs := [1]) (by kernel_rfl) (by simp) (AllReadyH.cons rfl (fun K hK => ?_) (AllReadyH.nil))
    go_simp
    refine hK.out _ _ (Lib.hid (hH.out.next (below_box _ _))) (fun hH => ?_)
    clear hK K
    have HO : Hid (((w6.alloc (.cells #[.bool r.acc, .int .u8 (r.pr : Int), .int .u32 (r.sa : Int), .int .i64 r.sb, .int .u32 (r.da : Int), .int .i64 r.db, .int .u16 (r.sl : Int), .int .u16 (r.sh : Int), .int .u16 (r.dl : Int), .int .u16 (r.dh : Int)] 32)).drew).ownsRow w6.heap.size 32 10 (.slice (some ⟨w6.heap.size, 0, none⟩) 1 1) ([r] : List R).length (cellsRs [r])) := lit_own w6 r
    have HBL : Hid (Below w6.heap.size w6 ((w6.alloc (.cells #[.bool r.acc, .int .u8 (r.pr : Int), .int .u32 (r.sa : Int), .int .i64 r.sb, .int .u32 (r.da : Int), .int .i64 r.db, .int .u16 (r.sl : Int), .int .u16 (r.sh : Int), .int .u16 (r.dl : Int), .int .u16 (r.dh : Int)] 32)).drew)) := ((Below.refl w6.heap.size w6).alloc (Nat.le_refl _) _).drew
    generalize (w6.alloc (.cells #[.bool r.acc, .int .u8 (r.pr : Int), .int .u32 (r.sa : Int), .int .i64 r.sb, .int .u32 (r.da : Int), .int .i64 r.db, .int .u16 (r.sl : Int), .int .u16 (r.sh : Int), .int .u16 (r.dl : Int), .int .u16 (r.dh : Int)] 32)).drew = w10 at hH HO HBL ⊢
    try simp only [Act.put, List.setIfInBounds_toArray, List.set_cons_zero, List.set_cons_succ]
    refine wpAnyH_ready (rs := [4]) (by kernel_rfl) (by simp) (AllReadyH.cons rfl (fun K hK => ?_) (AllReadyH.nil))
    refine step_append_rds w6 rfl (.tmp 20) (.tmp 22) rfl _ [r] rfl HO.out HBL.out _ A m c (few rs) rfl HM.out (HRF.out _ hH.out.k.bel) HLN.out ?_
    intro v11 w11 ho11 hb11
    change K (Act.put _ (some 23) _) _
    refine hK.out _ _ (Lib.hid (HS.out.next hb11.out)) (fun hH => ?_)
    clear hK K
    have HR11 := Lib.hid (Rds.of_own ho11.out)
    clear HO HBL ho11 hb11
    try simp only [Act.put, List.setIfInBounds_toArray, List.set_cons_zero, List.set_cons_succ]
    refine wpAnyH_ready (rs := [6]) (by kernel_rfl) (by simp) (AllReadyH.cons rfl (fun K hK => ?_) (AllReadyH.nil))
    go_simp
    go_at_call 6
    refine (H2.out _ _ HR11.out).mono ?_
    rintro e w12 ⟨rfl, hbp⟩
    refine hK.out _ _ (Lib.hid (hH.out.next hbp)) (fun hH => ?_)
    clear hK K
    clear hbp HR11
    try simp only [Act.put, List.setIfInBounds_toArray, List.set_cons_zero, List.set_cons_succ]
    refine wpAnyH_take (i := 7) (oi := ⟨some 18, _, _, _, _, _⟩) (v := ?v109) rfl (by kernel_rfl) (by kernel_rfl) (by kernel_rfl) (fun _ _ _ h => h) (Or.inl ⟨rfl, ?c109⟩) hH ?r109
    case c109 => (intro w' _; go_simp; (try with_reducible rfl))
    try simp only [Act.put, List.setIfInBounds_toArray, List.set_cons_zero, List.set_cons_succ]
    refine wpAnyH_take (i := 8) (oi := ⟨some 26, _, _, _, _, _⟩) (v := ?v110) rfl (by kernel_rfl) (by kernel_rfl) (by kernel_rfl) (fun _ _ _ h => h) (Or.inl ⟨rfl, ?c110⟩) hH ?r110
    case c110 => (intro w' _; go_simp; (try with_reducible rfl))
    try simp only [Act.put, List.setIfInBounds_toArray, List.set_cons_zero, List.set_cons_succ]
    refine wpAnyH_take (i := 9) (oi := ⟨some 27, _, _, _, _, _⟩) (v := ?v111) rfl (by kernel_rfl) (by kernel_rfl) (by kernel_rfl) (fun _ _ _ h => h) (Or.inl ⟨rfl, ?c111⟩) hH ?r111
    case c111 => (intro w' _; go_simp; (try with_reducible rfl))
    try simp only [Act.put, List.setIfInBounds_toArray, List.set_cons_zero, List.set_cons_succ]
    refine wpAnyH_take (i := 10) (oi := ⟨some 9, _, _, _, _, _⟩) (v := ?v112) rfl (by kernel_rfl) (by kernel_rfl) (by kernel_rfl) (fun _ _ _ h => h) (Or.inl ⟨rfl, ?c112⟩) hH ?r112
    case c112 => (intro w' _; go_simp; (try with_reducible rfl))
    try simp only [Act.put, List.setIfInBounds_toArray, List.set_cons_zero, List.set_cons_succ]
    refine wpAnyH_take (i := 11) (oi := ⟨some 10, _, _, _, _, _⟩) (v := ?v113) rfl (by kernel_rfl) (by kernel_rfl) (by kernel_rfl) (fun _ _ _ h => h) (Or.inl ⟨rfl, ?c113⟩) hH ?r113
    case c113 => (intro w' _; go_simp; (try with_reducible rfl))
    try simp only [Act.put, List.setIfInBounds_toArray, List.set_cons_zero, List.set_cons_succ]
    refine wpAnyH_done (by kernel_rfl) ?_ _
    clear HS
    obtain ⟨t0, t1, t2, t3, t4, t5, t6, t7, t8, t9⟩ := hH.out.r.cells
    obtain ⟨s0, s1, s2, s3, s4, s5, s6⟩ := hH.out.k.cells
    go_wp2_with fail
    go_at_call 10
    refine (HH.out _).mono ?_
    rintro e w13 ⟨rfl, hb13⟩
    have HT := Lib.hid (hH.out.next hb13)
    clear t0 t1 t2 t3 t4 t5 t6 t7 t8 t9 s0 s1 s2 s3 s4 s5 s6 hb13 hH
    have hH := HT
    clear HT
    go_wp2_with fail
    go_at_call 9
    refine (HA.out _).mono ?_
    rintro e w14 ⟨rfl, hb14⟩
    have HT := Lib.hid (hH.out.next hb14)
    clear hb14 hH
    obtain ⟨t0, t1, t2, t3, t4, t5, t6, t7, t8, t9⟩ := HT.out.r.cells
    go_wp2_with fail
    go_ret
    exact ⟨rfl, HT.out.k.bel⟩
set_option maxRecDepth 100000 in
set_option maxHeartbeats 2000000 in
theorem ahead_2 (A : Option Addr) (n c : Nat) (rs : List R) (r : R) (k : K) (w : World) (h0 : Rds w w.heap.size (.slice A n c) rs ∧ ∀ r ∈ rs, r.Ok) (ho : r.Ok) (hk : k.Ok) (hh : hitB r k = false) (hf : fst k (few rs) = none) :
    Calls Try.prog 4 #[.slice A n c, .agg #[.bool r.acc, .int .u8 (r.pr : Int), .int .u32 (r.sa : Int), .int .i64 r.sb, .int .u32 (r.da : Int), .int .i64 r.db, .int .u16 (r.sl : Int), .int .u16 (r.sh : Int), .int .u16 (r.dl : Int), .int .u16 (r.dh : Int)], .agg #[.int .u8 (k.pr : Int), .int .u32 (k.sr : Int), .int .u32 (k.ds : Int), .int .u16 (k.sp : Int), .int .u16 (k.dp : Int), .int .u8 (k.fl : Int), .int .u8 (k.kd : Int)]] w fun e w' => e = .returned (.bool true) ∧ Below w.heap.size w w' := by
  obtain ⟨m, hm⟩ : ∃ m, (few rs).length = m := ⟨_, rfl⟩
  have HF := Lib.hid (fun W hb => few_of h0.1 m hm W hb)
  have H1 : Hid (∀ W, Below w.heap.size w W → Calls Try.prog 6 #[.slice A m c, .agg #[.int .u8 (k.pr : Int), .int .u32 (k.sr : Int), .int .u32 (k.ds : Int), .int .u16 (k.sp : Int), .int .u16 (k.dp : Int), .int .u8 (k.fl : Int), .int .u8 (k.kd : Int)]] W fun e w' => e = .returned (.tuple #[.int .i64 (-1), .bool false]) ∧ Below W.heap.size W w') := by
    show ∀ W, _ → _
    intro W hb
    have := first_of h0.1 h0.2 m hm k hk W hb
    rw [hf] at this
    exact this
  have H2 : Hid (∀ v W, Rds W W.heap.size v ([r] ++ few rs) → Calls Try.prog 6 #[v, .agg #[.int .u8 (k.pr : Int), .int .u32 (k.sr : Int), .int .u32 (k.ds : Int), .int .u16 (k.sp : Int), .int .u16 (k.dp : Int), .int .u8 (k.fl : Int), .int .u8 (k.kd : Int)]] W fun e w' => e = .returned (.tuple #[.int .i64 (-1), .bool false]) ∧ Below W.heap.size W w') := by
    show ∀ v W, _ → _
    intro v W h
    have := first_own h (one_ok ho (few_ok h0.2)) (by have := few_len rs; simp; omega) k hk
    rw [show [r] ++ few rs = r :: few rs from rfl, ahead_no (few rs) hh, ahead_acc, hf] at this
    exact this
  have HH : Hid (∀ W, Calls Try.prog 10 #[.agg #[.bool r.acc, .int .u8 (r.pr : Int), .int .u32 (r.sa : Int), .int .i64 r.sb, .int .u32 (r.da : Int), .int .i64 r.db, .int .u16 (r.sl : Int), .int .u16 (r.sh : Int), .int .u16 (r.dl : Int), .int .u16 (r.dh : Int)], .agg #[.int .u8 (k.pr : Int), .int .u32 (k.sr : Int), .int .u32 (k.ds : Int), .int .u16 (k.sp : Int), .int .u16 (k.dp : Int), .int .u8 (k.fl : Int), .int .u8 (k.kd : Int)]] W fun e w' => e = .returned (.bool false) ∧ Below W.heap.size W w') := by
    show ∀ W, _
    intro W
    have := matches_any r k ho hk W
    rw [hh] at this
    exact this
  have HA := Lib.hid (fun W => awake_any W)
  have HM := Lib.hid hm
  have HLN : Hid (([r] : List R).length + m ≤ 100000) := by show _ ≤ _; have := few_len rs; simp; omega
  have HRF : Hid (∀ W, Below w.heap.size w W → Rds W W.heap.size (.slice A m c) (few rs)) := by
    show ∀ W, _ → _
    intro W hb
    have := few_rds h0.1
    rw [hm] at this
    exact this.below hb
  have HS := Lib.hid (BK.mk (Two.box w r k).r (Two.box w r k).k)
  clear h0 hk ho hm hh hf
  go_enter Try.func4, Try.ntmps4
  go_wp2_with fail
  refine wp_region_held_drew (S := fun w' => Hid (BK w w.heap.size (w.heap.size + 1) r k w')) (by kernel_rfl) (Lib.hid HS.out.drew) (fun hH => ?_)
  refine wpAnyH_take (i := 0) (oi := ⟨some 12, _, _, _, _, _⟩) (v := ?v1) rfl (by kernel_rfl) (by kernel_rfl) (by kernel_rfl) (fun _ _ _ h => h) (Or.inl ⟨rfl, ?c1⟩) hH ?r1
  case c1 => (intro w' _; go_simp; (try with_reducible rfl))
  try simp only [Act.put, List.setIfInBounds_toArray, List.set_cons_zero, List.set_cons_succ]
  refine wpAnyH_take (i := 2) (oi := ⟨some 14, _, _, _, _, _⟩) (v := ?v2) rfl (by kernel_rfl) (by kernel_rfl) (by kernel_rfl) (fun _ _ _ h => h) (Or.inl ⟨rfl, ?c2⟩) hH ?r2
  case c2 => (intro w' hS; obtain ⟨t0, t1, t2, t3, t4, t5, t6⟩ := hS.out.k.cells; go_simp; (try with_reducible rfl))
  try simp only [Act.put, List.setIfInBounds_toArray, List.set_cons_zero, List.set_cons_succ]
  refine wpAnyH_ready (rs := [1]) (by kernel_rfl) (by simp) (AllReadyH.cons rfl (fun K hK => ?_) (AllReadyH.nil))
  go_simp
  go_at_call 7
  refine (HF.out _ hH.out.k.bel).mono ?_
  rintro e w7 ⟨rfl, rfl⟩
  refine hK.out _ _ (hH) (fun hH => ?_)
  clear hK K
  try simp only [Act.put, List.setIfInBounds_toArray, List.set_cons_zero, List.set_cons_succ]
  refine wpAnyH_ready (rs := [3]) (by kernel_rfl) (by simp) (AllReadyH.cons rfl (fun K hK => ?_) (AllReadyH.nil))
  go_simp
  go_at_call 6
  refine (H1.out _ hH.out.k.bel).mono ?_
  rintro e w6 ⟨rfl, hbp⟩
  refine hK.out _ _ (Lib.hid (hH.out.next hbp)) (fun hH => ?_)
  clear hK K
  clear hbp
  try simp only [Act.put, List.setIfInBounds_toArray, List.set_cons_zero, List.set_cons_succ]
  refine wpAnyH_take (i := 4) (oi := ⟨some 11, _, _, _, _, _⟩) (v := ?v3) rfl (by kernel_rfl) (by kernel_rfl) (by kernel_rfl) (fun _ _ _ h => h) (Or.inl ⟨rfl, ?c3⟩) hH ?r3
  case c3 => (intro w' _; go_simp; (try with_reducible rfl))
  try simp only [Act.put, List.setIfInBounds_toArray, List.set_cons_zero, List.set_cons_succ]
  refine wpAnyH_take (i := 5) (oi := ⟨some 16, _, _, _, _, _⟩) (v := ?v4) rfl (by kernel_rfl) (by kernel_rfl) (by kernel_rfl) (fun _ _ _ h => h) (Or.inl ⟨rfl, ?c4⟩) hH ?r4
  case c4 => (intro w' _; go_simp; (try with_reducible rfl))
  try simp only [Act.put, List.setIfInBounds_toArray, List.set_cons_zero, List.set_cons_succ]
  refine wpAnyH_take (i := 6) (oi := ⟨some 17, _, _, _, _, _⟩) (v := ?v5) rfl (by kernel_rfl) (by kernel_rfl) (by kernel_rfl) (fun _ _ _ h => h) (Or.inl ⟨rfl, ?c5⟩) hH ?r5
  case c5 => (intro w' _; go_simp; (try with_reducible rfl))
  try simp only [Act.put, List.setIfInBounds_toArray, List.set_cons_zero, List.set_cons_succ]
  refine wpAnyH_take (i := 7) (oi := ⟨some 7, _, _, _, _, _⟩) (v := ?v6) rfl (by kernel_rfl) (by kernel_rfl) (by kernel_rfl) (fun _ _ _ h => h) (Or.inl ⟨rfl, ?c6⟩) hH ?r6
  case c6 => (intro w' _; go_simp; (try with_reducible rfl))
  try simp only [Act.put, List.setIfInBounds_toArray, List.set_cons_zero, List.set_cons_succ]
  refine wpAnyH_take (i := 8) (oi := ⟨some 8, _, _, _, _, _⟩) (v := ?v7) rfl (by kernel_rfl) (by kernel_rfl) (by kernel_rfl) (fun _ _ _ h => h) (Or.inl ⟨rfl, ?c7⟩) hH ?r7
  case c7 => (intro w' _; go_simp; (try with_reducible rfl))
  try simp only [Act.put, List.setIfInBounds_toArray, List.set_cons_zero, List.set_cons_succ]
  refine wpAnyH_done (by kernel_rfl) ?_ _
  clear HS
  have HS := hH
  clear hH
  go_wp2_with fail
  refine wp_region_held_drew (S := fun w' => Hid (BK w w.heap.size (w.heap.size + 1) r k w')) (by kernel_rfl) (Lib.hid HS.out.drew) (fun hH => ?_)
  refine wpAnyH_take (i := 0) (oi := ⟨some 19, _, _, _, _, _⟩) (v := ?v101) rfl (by kernel_rfl) (by kernel_rfl) (by kernel_rfl) (fun _ _ _ h => h) (Or.inl ⟨rfl, ?c101⟩) hH ?r101
  case c101 => (intro w' hS; obtain ⟨t0, t1, t2, t3, t4, t5, t6, t7, t8, t9⟩ := hS.out.r.cells; go_simp; (try with_reducible rfl))
  try simp only [Act.put, List.setIfInBounds_toArray, List.set_cons_zero, List.set_cons_succ]
  refine wpAnyH_take (i := 2) (oi := ⟨some 21, _, _, _, _, _⟩) (v := ?v102) rfl (by kernel_rfl) (by kernel_rfl) (by kernel_rfl) (fun _ _ _ h => h) (Or.inl ⟨rfl, ?c102⟩) hH ?r102
  case c102 => (intro w' _; go_simp; (try with_reducible rfl))
  try simp only [Act.put, List.setIfInBounds_toArray, List.set_cons_zero, List.set_cons_succ]
  refine wpAnyH_take (i := 5) (oi := ⟨some 24, _, _, _, _, _⟩) (v := ?v103) rfl (by kernel_rfl) (by kernel_rfl) (by kernel_rfl) (fun _ _ _ h => h) (Or.inl ⟨rfl, ?c103⟩) hH ?r103
  case c103 => (intro w' hS; obtain ⟨t0, t1, t2, t3, t4, t5, t6⟩ := hS.out.k.cells; go_simp; (try with_reducible rfl))
  try simp only [Act.put, List.setIfInBounds_toArray, List.set_cons_zero, List.set_cons_succ]
  refine wpAnyH_ready (rs := [1, 3]) (by kernel_rfl) (by simp) (AllReadyH.cons rfl (fun K hK => ?_) (AllReadyH.cons rfl (fun K hK => ?_) (AllReadyH.nil)))
  · go_simp
    refine hK.out _ _ (Lib.hid (hH.out.next (below_box _ _))) (fun hH => ?_)
    clear hK K
    have HO : Hid (((w6.alloc (.cells #[.bool r.acc, .int .u8 (r.pr : Int), .int .u32 (r.sa : Int), .int .i64 r.sb, .int .u32 (r.da : Int), .int .i64 r.db, .int .u16 (r.sl : Int), .int .u16 (r.sh : Int), .int .u16 (r.dl : Int), .int .u16 (r.dh : Int)] 32)).drew).ownsRow w6.heap.size 32 10 (.slice (some ⟨w6.heap.size, 0, none⟩) 1 1) ([r] : List R).length (cellsRs [r])) := lit_own w6 r
    have HBL : Hid (Below w6.heap.size w6 ((w6.alloc (.cells #[.bool r.acc, .int .u8 (r.pr : Int), .int .u32 (r.sa : Int), .int .i64 r.sb, .int .u32 (r.da : Int), .int .i64 r.db, .int .u16 (r.sl : Int), .int .u16 (r.sh : Int), .int .u16 (r.dl : Int), .int .u16 (r.dh : Int)] 32)).drew)) := ((Below.refl w6.heap.size w6).alloc (Nat.le_refl _) _).drew
    generalize (w6.alloc (.cells #[.bool r.acc, .int .u8 (r.pr : Int), .int .u32 (r.sa : Int), .int .i64 r.sb, .int .u32 (r.da : Int), .int .i64 r.db, .int .u16 (r.sl : Int), .int .u16 (r.sh : Int), .int .u16 (r.dl : Int), .int .u16 (r.dh : Int)] 32)).drew = w10 at hH HO HBL ⊢
    try simp only [Act.put, List.setIfInBounds_toArray, List.set_cons_zero, List.set_cons_succ]
    refine wpAnyH_ready (rs := [3]) (by kernel_rfl) (by simp) (AllReadyH.cons rfl (fun K hK => ?_) (AllReadyH.nil))
    go_simp
    go_at_call 7
    refine (HF.out _ hH.out.k.bel).mono ?_
    rintro e w7 ⟨rfl, rfl⟩
    refine hK.out _ _ (hH) (fun hH => ?_)
    clear hK K
    try simp only [Act.put, List.setIfInBounds_toArray, List.set_cons_zero, List.set_cons_succ]
    refine wpAnyH_ready (rs := [4]) (by kernel_rfl) (by simp) (AllReadyH.cons rfl (fun K hK => ?_) (AllReadyH.nil))
    refine step_append_rds w6 rfl (.tmp 20) (.tmp 22) rfl _ [r] rfl HO.out HBL.out _ A m c (few rs) rfl HM.out (HRF.out _ hH.out.k.bel) HLN.out ?_
    intro v11 w11 ho11 hb11
    change K (Act.put _ (some 23) _) _
    refine hK.out _ _ (Lib.hid (HS.out.next hb11.out)) (fun hH => ?_)
    clear hK K
    have HR11 := Lib.hid (Rds.of_own ho11.out)
    clear HO HBL ho11 hb11
    try simp only [Act.put, List.setIfInBounds_toArray, List.set_cons_zero, List.set_cons_succ]
    refine wpAnyH_ready (rs := [6]) (by kernel_rfl) (by simp) (AllReadyH.cons rfl (fun K hK => ?_) (AllReadyH.nil))
    go_simp
    go_at_call 6
    refine (H2.out _ _ HR11.out).mono ?_
    rintro e w12 ⟨rfl, hbp⟩
    refine hK.out _ _ (Lib.hid (hH.out.next hbp)) (fun hH => ?_)
    clear hK K
    clear hbp HR11
    try simp only [Act.put, List.setIfInBounds_toArray, List.set_cons_zero, List.set_cons_succ]
    refine wpAnyH_take (i := 7) (oi := ⟨some 18, _, _, _, _, _⟩) (v := ?v104) rfl (by kernel_rfl) (by kernel_rfl) (by kernel_rfl) (fun _ _ _ h => h) (Or.inl ⟨rfl, ?c104⟩) hH ?r104
    case c104 => (intro w' _; go_simp; (try with_reducible rfl))
    try simp only [Act.put, List.setIfInBounds_toArray, List.set_cons_zero, List.set_cons_succ]
    refine wpAnyH_take (i := 8) (oi := ⟨some 26, _, _, _, _, _⟩) (v := ?v105) rfl (by kernel_rfl) (by kernel_rfl) (by kernel_rfl) (fun _ _ _ h => h) (Or.inl ⟨rfl, ?c105⟩) hH ?r105
    case c105 => (intro w' _; go_simp; (try with_reducible rfl))
    try simp only [Act.put, List.setIfInBounds_toArray, List.set_cons_zero, List.set_cons_succ]
    refine wpAnyH_take (i := 9) (oi := ⟨some 27, _, _, _, _, _⟩) (v := ?v106) rfl (by kernel_rfl) (by kernel_rfl) (by kernel_rfl) (fun _ _ _ h => h) (Or.inl ⟨rfl, ?c106⟩) hH ?r106
    case c106 => (intro w' _; go_simp; (try with_reducible rfl))
    try simp only [Act.put, List.setIfInBounds_toArray, List.set_cons_zero, List.set_cons_succ]
    refine wpAnyH_take (i := 10) (oi := ⟨some 9, _, _, _, _, _⟩) (v := ?v107) rfl (by kernel_rfl) (by kernel_rfl) (by kernel_rfl) (fun _ _ _ h => h) (Or.inl ⟨rfl, ?c107⟩) hH ?r107
    case c107 => (intro w' _; go_simp; (try with_reducible rfl))
    try simp only [Act.put, List.setIfInBounds_toArray, List.set_cons_zero, List.set_cons_succ]
    refine wpAnyH_take (i := 11) (oi := ⟨some 10, _, _, _, _, _⟩) (v := ?v108) rfl (by kernel_rfl) (by kernel_rfl) (by kernel_rfl) (fun _ _ _ h => h) (Or.inl ⟨rfl, ?c108⟩) hH ?r108
    case c108 => (intro w' _; go_simp; (try with_reducible rfl))
    try simp only [Act.put, List.setIfInBounds_toArray, List.set_cons_zero, List.set_cons_succ]
    refine wpAnyH_done (by kernel_rfl) ?_ _
    clear HS
    obtain ⟨t0, t1, t2, t3, t4, t5, t6, t7, t8, t9⟩ := hH.out.r.cells
    obtain ⟨s0, s1, s2, s3, s4, s5, s6⟩ := hH.out.k.cells
    go_wp2_with fail
    go_at_call 10
    refine (HH.out _).mono ?_
    rintro e w13 ⟨rfl, hb13⟩
    have HT := Lib.hid (hH.out.next hb13)
    clear t0 t1 t2 t3 t4 t5 t6 t7 t8 t9 s0 s1 s2 s3 s4 s5 s6 hb13 hH
    have hH := HT
    clear HT
    go_wp2_with fail
    go_at_call 9
    refine (HA.out _).mono ?_
    rintro e w14 ⟨rfl, hb14⟩
    have HT := Lib.hid (hH.out.next hb14)
    clear hb14 hH
    go_wp2_with fail
    go_ret
    exact ⟨rfl, HT.out.k.bel⟩
  · go_simp
    go_at_call 7
    refine (HF.out _ hH.out.k.bel).mono ?_
    rintro e w7 ⟨rfl, rfl⟩
    refine hK.out _ _ (hH) (fun hH => ?_)
    clear hK K
    try simp only [Act.put, List.setIfInBounds_toArray, List.set_cons_zero, List.set_cons_succ]
    refine wpAnyH_ready (rs := [1]) (by kernel_rfl) (by simp) (AllReadyH.cons rfl (fun K hK => ?_) (AllReadyH.nil))
    go_simp
    refine hK.out _ _ (Lib.hid (hH.out.next (below_box _ _))) (fun hH => ?_)
    clear hK K
    have HO : Hid (((w6.alloc (.cells #[.bool r.acc, .int .u8 (r.pr : Int), .int .u32 (r.sa : Int), .int .i64 r.sb, .int .u32 (r.da : Int), .int .i64 r.db, .int .u16 (r.sl : Int), .int .u16 (r.sh : Int), .int .u16 (r.dl : Int), .int .u16 (r.dh : Int)] 32)).drew).ownsRow w6.heap.size 32 10 (.slice (some ⟨w6.heap.size, 0, none⟩) 1 1) ([r] : List R).length (cellsRs [r])) := lit_own w6 r
    have HBL : Hid (Below w6.heap.size w6 ((w6.alloc (.cells #[.bool r.acc, .int .u8 (r.pr : Int), .int .u32 (r.sa : Int), .int .i64 r.sb, .int .u32 (r.da : Int), .int .i64 r.db, .int .u16 (r.sl : Int), .int .u16 (r.sh : Int), .int .u16 (r.dl : Int), .int .u16 (r.dh : Int)] 32)).drew)) := ((Below.refl w6.heap.size w6).alloc (Nat.le_refl _) _).drew
    generalize (w6.alloc (.cells #[.bool r.acc, .int .u8 (r.pr : Int), .int .u32 (r.sa : Int), .int .i64 r.sb, .int .u32 (r.da : Int), .int .i64 r.db, .int .u16 (r.sl : Int), .int .u16 (r.sh : Int), .int .u16 (r.dl : Int), .int .u16 (r.dh : Int)] 32)).drew = w10 at hH HO HBL ⊢
    try simp only [Act.put, List.setIfInBounds_toArray, List.set_cons_zero, List.set_cons_succ]
    refine wpAnyH_ready (rs := [4]) (by kernel_rfl) (by simp) (AllReadyH.cons rfl (fun K hK => ?_) (AllReadyH.nil))
    refine step_append_rds w6 rfl (.tmp 20) (.tmp 22) rfl _ [r] rfl HO.out HBL.out _ A m c (few rs) rfl HM.out (HRF.out _ hH.out.k.bel) HLN.out ?_
    intro v11 w11 ho11 hb11
    change K (Act.put _ (some 23) _) _
    refine hK.out _ _ (Lib.hid (HS.out.next hb11.out)) (fun hH => ?_)
    clear hK K
    have HR11 := Lib.hid (Rds.of_own ho11.out)
    clear HO HBL ho11 hb11
    try simp only [Act.put, List.setIfInBounds_toArray, List.set_cons_zero, List.set_cons_succ]
    refine wpAnyH_ready (rs := [6]) (by kernel_rfl) (by simp) (AllReadyH.cons rfl (fun K hK => ?_) (AllReadyH.nil))
    go_simp
    go_at_call 6
    refine (H2.out _ _ HR11.out).mono ?_
    rintro e w12 ⟨rfl, hbp⟩
    refine hK.out _ _ (Lib.hid (hH.out.next hbp)) (fun hH => ?_)
    clear hK K
    clear hbp HR11
    try simp only [Act.put, List.setIfInBounds_toArray, List.set_cons_zero, List.set_cons_succ]
    refine wpAnyH_take (i := 7) (oi := ⟨some 18, _, _, _, _, _⟩) (v := ?v109) rfl (by kernel_rfl) (by kernel_rfl) (by kernel_rfl) (fun _ _ _ h => h) (Or.inl ⟨rfl, ?c109⟩) hH ?r109
    case c109 => (intro w' _; go_simp; (try with_reducible rfl))
    try simp only [Act.put, List.setIfInBounds_toArray, List.set_cons_zero, List.set_cons_succ]
    refine wpAnyH_take (i := 8) (oi := ⟨some 26, _, _, _, _, _⟩) (v := ?v110) rfl (by kernel_rfl) (by kernel_rfl) (by kernel_rfl) (fun _ _ _ h => h) (Or.inl ⟨rfl, ?c110⟩) hH ?r110
    case c110 => (intro w' _; go_simp; (try with_reducible rfl))
    try simp only [Act.put, List.setIfInBounds_toArray, List.set_cons_zero, List.set_cons_succ]
    refine wpAnyH_take (i := 9) (oi := ⟨some 27, _, _, _, _, _⟩) (v := ?v111) rfl (by kernel_rfl) (by kernel_rfl) (by kernel_rfl) (fun _ _ _ h => h) (Or.inl ⟨rfl, ?c111⟩) hH ?r111
    case c111 => (intro w' _; go_simp; (try with_reducible rfl))
    try simp only [Act.put, List.setIfInBounds_toArray, List.set_cons_zero, List.set_cons_succ]
    refine wpAnyH_take (i := 10) (oi := ⟨some 9, _, _, _, _, _⟩) (v := ?v112) rfl (by kernel_rfl) (by kernel_rfl) (by kernel_rfl) (fun _ _ _ h => h) (Or.inl ⟨rfl, ?c112⟩) hH ?r112
    case c112 => (intro w' _; go_simp; (try with_reducible rfl))
    try simp only [Act.put, List.setIfInBounds_toArray, List.set_cons_zero, List.set_cons_succ]
    refine wpAnyH_take (i := 11) (oi := ⟨some 10, _, _, _, _, _⟩) (v := ?v113) rfl (by kernel_rfl) (by kernel_rfl) (by kernel_rfl) (fun _ _ _ h => h) (Or.inl ⟨rfl, ?c113⟩) hH ?r113
    case c113 => (intro w' _; go_simp; (try with_reducible rfl))
    try simp only [Act.put, List.setIfInBounds_toArray, List.set_cons_zero, List.set_cons_succ]
    refine wpAnyH_done (by kernel_rfl) ?_ _
    clear HS
    obtain ⟨t0, t1, t2, t3, t4, t5, t6, t7, t8, t9⟩ := hH.out.r.cells
    obtain ⟨s0, s1, s2, s3, s4, s5, s6⟩ := hH.out.k.cells
    go_wp2_with fail
    go_at_call 10
    refine (HH.out _).mono ?_
    rintro e w13 ⟨rfl, hb13⟩
    have HT := Lib.hid (hH.out.next hb13)
    clear t0 t1 t2 t3 t4 t5 t6 t7 t8 t9 s0 s1 s2 s3 s4 s5 s6 hb13 hH
    have hH := HT
    clear HT
    go_wp2_with fail
    go_at_call 9
    refine (HA.out _).mono ?_
    rintro e w14 ⟨rfl, hb14⟩
    have HT := Lib.hid (hH.out.next hb14)
    clear hb14 hH
    go_wp2_with fail
    go_ret
    exact ⟨rfl, HT.out.k.bel⟩
set_option maxRecDepth 100000 in
set_option maxHeartbeats 2000000 in
theorem ahead_3 (A : Option Addr) (n c : Nat) (rs : List R) (r : R) (k : K) (w : World) (h0 : Rds w w.heap.size (.slice A n c) rs ∧ ∀ r ∈ rs, r.Ok) (ho : r.Ok) (hk : k.Ok) (hh : hitB r k = false) (i : Nat) (hf : fst k (few rs) = some i) :
    Calls Try.prog 4 #[.slice A n c, .agg #[.bool r.acc, .int .u8 (r.pr : Int), .int .u32 (r.sa : Int), .int .i64 r.sb, .int .u32 (r.da : Int), .int .i64 r.db, .int .u16 (r.sl : Int), .int .u16 (r.sh : Int), .int .u16 (r.dl : Int), .int .u16 (r.dh : Int)], .agg #[.int .u8 (k.pr : Int), .int .u32 (k.sr : Int), .int .u32 (k.ds : Int), .int .u16 (k.sp : Int), .int .u16 (k.dp : Int), .int .u8 (k.fl : Int), .int .u8 (k.kd : Int)]] w fun e w' => e = .returned (.bool true) ∧ Below w.heap.size w w' := by
  obtain ⟨m, hm⟩ : ∃ m, (few rs).length = m := ⟨_, rfl⟩
  have HF := Lib.hid (fun W hb => few_of h0.1 m hm W hb)
  obtain ⟨b1, hb1⟩ : ∃ b, accB (few rs) (fst k (few rs)) = b := ⟨_, rfl⟩
  have hi : i < 100 := by
    obtain ⟨q, hq, -⟩ := fst_some hf
    have := (List.getElem?_eq_some_iff.1 hq).1
    have := few_len rs
    omega
  have H1 : Hid (∀ W, Below w.heap.size w W → Calls Try.prog 6 #[.slice A m c, .agg #[.int .u8 (k.pr : Int), .int .u32 (k.sr : Int), .int .u32 (k.ds : Int), .int .u16 (k.sp : Int), .int .u16 (k.dp : Int), .int .u8 (k.fl : Int), .int .u8 (k.kd : Int)]] W fun e w' => e = .returned (.tuple #[.int .i64 (i : Int), .bool b1]) ∧ Below W.heap.size W w') := by
    show ∀ W, _ → _
    intro W hb
    have := first_of h0.1 h0.2 m hm k hk W hb
    rw [hb1, hf] at this
    exact this
  have H2 : Hid (∀ v W, Rds W W.heap.size v ([r] ++ few rs) → Calls Try.prog 6 #[v, .agg #[.int .u8 (k.pr : Int), .int .u32 (k.sr : Int), .int .u32 (k.ds : Int), .int .u16 (k.sp : Int), .int .u16 (k.dp : Int), .int .u8 (k.fl : Int), .int .u8 (k.kd : Int)]] W fun e w' => e = .returned (.tuple #[.int .i64 ((i : Int) + 1), .bool b1]) ∧ Below W.heap.size W w') := by
    show ∀ v W, _ → _
    intro v W h
    have := first_own h (one_ok ho (few_ok h0.2)) (by have := few_len rs; simp; omega) k hk
    rw [show [r] ++ few rs = r :: few rs from rfl, ahead_no (few rs) hh, ahead_acc, hb1, hf] at this
    exact this
  have HH : Hid (∀ W, Calls Try.prog 10 #[.agg #[.bool r.acc, .int .u8 (r.pr : Int), .int .u32 (r.sa : Int), .int .i64 r.sb, .int .u32 (r.da : Int), .int .i64 r.db, .int .u16 (r.sl : Int), .int .u16 (r.sh : Int), .int .u16 (r.dl : Int), .int .u16 (r.dh : Int)], .agg #[.int .u8 (k.pr : Int), .int .u32 (k.sr : Int), .int .u32 (k.ds : Int), .int .u16 (k.sp : Int), .int .u16 (k.dp : Int), .int .u8 (k.fl : Int), .int .u8 (k.kd : Int)]] W fun e w' => e = .returned (.bool false) ∧ Below W.heap.size W w') := by
    show ∀ W, _
    intro W
    have := matches_any r k ho hk W
    rw [hh] at this
    exact this
  have HA := Lib.hid (fun W => awake_any W)
  have HM := Lib.hid hm
  have HLN : Hid (([r] : List R).length + m ≤ 100000) := by show _ ≤ _; have := few_len rs; simp; omega
  have HRF : Hid (∀ W, Below w.heap.size w W → Rds W W.heap.size (.slice A m c) (few rs)) := by
    show ∀ W, _ → _
    intro W hb
    have := few_rds h0.1
    rw [hm] at this
    exact this.below hb
  have e3 : (b1 == b1) = true := beq_self_eq_true _
  have HS := Lib.hid (BK.mk (Two.box w r k).r (Two.box w r k).k)
  clear h0 hk ho hm hh hf hb1
  go_enter Try.func4, Try.ntmps4
  go_wp2_with fail
  refine wp_region_held_drew (S := fun w' => Hid (BK w w.heap.size (w.heap.size + 1) r k w')) (by kernel_rfl) (Lib.hid HS.out.drew) (fun hH => ?_)
  refine wpAnyH_take (i := 0) (oi := ⟨some 12, _, _, _, _, _⟩) (v := ?v1) rfl (by kernel_rfl) (by kernel_rfl) (by kernel_rfl) (fun _ _ _ h => h) (Or.inl ⟨rfl, ?c1⟩) hH ?r1
  case c1 => (intro w' _; go_simp; (try with_reducible rfl))
  try simp only [Act.put, List.setIfInBounds_toArray, List.set_cons_zero, List.set_cons_succ]
  refine wpAnyH_take (i := 2) (oi := ⟨some 14, _, _, _, _, _⟩) (v := ?v2) rfl (by kernel_rfl) (by kernel_rfl) (by kernel_rfl) (fun _ _ _ h => h) (Or.inl ⟨rfl, ?c2⟩) hH ?r2
  case c2 => (intro w' hS; obtain ⟨t0, t1, t2, t3, t4, t5, t6⟩ := hS.out.k.cells; go_simp; (try with_reducible rfl))
  try simp only [Act.put, List.setIfInBounds_toArray, List.set_cons_zero, List.set_cons_succ]
  refine wpAnyH_ready (rs := [1]) (by kernel_rfl) (by simp) (AllReadyH.cons rfl (fun K hK => ?_) (AllReadyH.nil))
  go_simp
  go_at_call 7
  refine (HF.out _ hH.out.k.bel).mono ?_
  rintro e w7 ⟨rfl, rfl⟩
  refine hK.out _ _ (hH) (fun hH => ?_)
  clear hK K
  try simp only [Act.put, List.setIfInBounds_toArray, List.set_cons_zero, List.set_cons_succ]
  refine wpAnyH_ready (rs := [3]) (by kernel_rfl) (by simp) (AllReadyH.cons rfl (fun K hK => ?_) (AllReadyH.nil))
  go_simp
  go_at_call 6
  refine (H1.out _ hH.out.k.bel).mono ?_
  rintro e w6 ⟨rfl, hbp⟩
  refine hK.out _ _ (Lib.hid (hH.out.next hbp)) (fun hH => ?_)
  clear hK K
  clear hbp
  try simp only [Act.put, List.setIfInBounds_toArray, List.set_cons_zero, List.set_cons_succ]
  refine wpAnyH_take (i := 4) (oi := ⟨some 11, _, _, _, _, _⟩) (v := ?v3) rfl (by kernel_rfl) (by kernel_rfl) (by kernel_rfl) (fun _ _ _ h => h) (Or.inl ⟨rfl, ?c3⟩) hH ?r3
  case c3 => (intro w' _; go_simp; (try with_reducible rfl))
  try simp only [Act.put, List.setIfInBounds_toArray, List.set_cons_zero, List.set_cons_succ]
  refine wpAnyH_take (i := 5) (oi := ⟨some 16, _, _, _, _, _⟩) (v := ?v4) rfl (by kernel_rfl) (by kernel_rfl) (by kernel_rfl) (fun _ _ _ h => h) (Or.inl ⟨rfl, ?c4⟩) hH ?r4
  case c4 => (intro w' _; go_simp; (try with_reducible rfl))
  try simp only [Act.put, List.setIfInBounds_toArray, List.set_cons_zero, List.set_cons_succ]
  refine wpAnyH_take (i := 6) (oi := ⟨some 17, _, _, _, _, _⟩) (v := ?v5) rfl (by kernel_rfl) (by kernel_rfl) (by kernel_rfl) (fun _ _ _ h => h) (Or.inl ⟨rfl, ?c5⟩) hH ?r5
  case c5 => (intro w' _; go_simp; (try with_reducible rfl))
  try simp only [Act.put, List.setIfInBounds_toArray, List.set_cons_zero, List.set_cons_succ]
  refine wpAnyH_take (i := 7) (oi := ⟨some 7, _, _, _, _, _⟩) (v := ?v6) rfl (by kernel_rfl) (by kernel_rfl) (by kernel_rfl) (fun _ _ _ h => h) (Or.inl ⟨rfl, ?c6⟩) hH ?r6
  case c6 => (intro w' _; go_simp; (try with_reducible rfl))
  try simp only [Act.put, List.setIfInBounds_toArray, List.set_cons_zero, List.set_cons_succ]
  refine wpAnyH_take (i := 8) (oi := ⟨some 8, _, _, _, _, _⟩) (v := ?v7) rfl (by kernel_rfl) (by kernel_rfl) (by kernel_rfl) (fun _ _ _ h => h) (Or.inl ⟨rfl, ?c7⟩) hH ?r7
  case c7 => (intro w' _; go_simp; (try with_reducible rfl))
  try simp only [Act.put, List.setIfInBounds_toArray, List.set_cons_zero, List.set_cons_succ]
  refine wpAnyH_done (by kernel_rfl) ?_ _
  clear HS
  have HS := hH
  clear hH
  go_wp2_with fail
  refine wp_region_held_drew (S := fun w' => Hid (BK w w.heap.size (w.heap.size + 1) r k w')) (by kernel_rfl) (Lib.hid HS.out.drew) (fun hH => ?_)
  refine wpAnyH_take (i := 0) (oi := ⟨some 19, _, _, _, _, _⟩) (v := ?v101) rfl (by kernel_rfl) (by kernel_rfl) (by kernel_rfl) (fun _ _ _ h => h) (Or.inl ⟨rfl, ?c101⟩) hH ?r101
  case c101 => (intro w' hS; obtain ⟨t0, t1, t2, t3, t4, t5, t6, t7, t8, t9⟩ := hS.out.r.cells; go_simp; (try with_reducible rfl))
  try simp only [Act.put, List.setIfInBounds_toArray, List.set_cons_zero, List.set_cons_succ]
  refine wpAnyH_take (i := 2) (oi := ⟨some 21, _, _, _, _, _⟩) (v := ?v102) rfl (by kernel_rfl) (by kernel_rfl) (by kernel_rfl) (fun _ _ _ h => h) (Or.inl ⟨rfl, ?c102⟩) hH ?r102
  case c102 => (intro w' _; go_simp; (try with_reducible rfl))
  try simp only [Act.put, List.setIfInBounds_toArray, List.set_cons_zero, List.set_cons_succ]
  refine wpAnyH_take (i := 5) (oi := ⟨some 24, _, _, _, _, _⟩) (v := ?v103) rfl (by kernel_rfl) (by kernel_rfl) (by kernel_rfl) (fun _ _ _ h => h) (Or.inl ⟨rfl, ?c103⟩) hH ?r103
  case c103 => (intro w' hS; obtain ⟨t0, t1, t2, t3, t4, t5, t6⟩ := hS.out.k.cells; go_simp; (try with_reducible rfl))
  try simp only [Act.put, List.setIfInBounds_toArray, List.set_cons_zero, List.set_cons_succ]
  refine wpAnyH_ready (rs := [1, 3]) (by kernel_rfl) (by simp) (AllReadyH.cons rfl (fun K hK => ?_) (AllReadyH.cons rfl (fun K hK => ?_) (AllReadyH.nil)))
  · go_simp
    refine hK.out _ _ (Lib.hid (hH.out.next (below_box _ _))) (fun hH => ?_)
    clear hK K
    have HO : Hid (((w6.alloc (.cells #[.bool r.acc, .int .u8 (r.pr : Int), .int .u32 (r.sa : Int), .int .i64 r.sb, .int .u32 (r.da : Int), .int .i64 r.db, .int .u16 (r.sl : Int), .int .u16 (r.sh : Int), .int .u16 (r.dl : Int), .int .u16 (r.dh : Int)] 32)).drew).ownsRow w6.heap.size 32 10 (.slice (some ⟨w6.heap.size, 0, none⟩) 1 1) ([r] : List R).length (cellsRs [r])) := lit_own w6 r
    have HBL : Hid (Below w6.heap.size w6 ((w6.alloc (.cells #[.bool r.acc, .int .u8 (r.pr : Int), .int .u32 (r.sa : Int), .int .i64 r.sb, .int .u32 (r.da : Int), .int .i64 r.db, .int .u16 (r.sl : Int), .int .u16 (r.sh : Int), .int .u16 (r.dl : Int), .int .u16 (r.dh : Int)] 32)).drew)) := ((Below.refl w6.heap.size w6).alloc (Nat.le_refl _) _).drew
    generalize (w6.alloc (.cells #[.bool r.acc, .int .u8 (r.pr : Int), .int .u32 (r.sa : Int), .int .i64 r.sb, .int .u32 (r.da : Int), .int .i64 r.db, .int .u16 (r.sl : Int), .int .u16 (r.sh : Int), .int .u16 (r.dl : Int), .int .u16 (r.dh : Int)] 32)).drew = w10 at hH HO HBL ⊢
    try simp only [Act.put, List.setIfInBounds_toArray, List.set_cons_zero, List.set_cons_succ]
    refine wpAnyH_ready (rs := [3]) (by kernel_rfl) (by simp) (AllReadyH.cons rfl (fun K hK => ?_) (AllReadyH.nil))
    go_simp
    go_at_call 7
    refine (HF.out _ hH.out.k.bel).mono ?_
    rintro e w7 ⟨rfl, rfl⟩
    refine hK.out _ _ (hH) (fun hH => ?_)
    clear hK K
    try simp only [Act.put, List.setIfInBounds_toArray, List.set_cons_zero, List.set_cons_succ]
    refine wpAnyH_ready (rs := [4]) (by kernel_rfl) (by simp) (AllReadyH.cons rfl (fun K hK => ?_) (AllReadyH.nil))
    refine step_append_rds w6 rfl (.tmp 20) (.tmp 22) rfl _ [r] rfl HO.out HBL.out _ A m c (few rs) rfl HM.out (HRF.out _ hH.out.k.bel) HLN.out ?_
    intro v11 w11 ho11 hb11
    change K (Act.put _ (some 23) _) _
    refine hK.out _ _ (Lib.hid (HS.out.next hb11.out)) (fun hH => ?_)
    clear hK K
    have HR11 := Lib.hid (Rds.of_own ho11.out)
    clear HO HBL ho11 hb11
    try simp only [Act.put, List.setIfInBounds_toArray, List.set_cons_zero, List.set_cons_succ]
    refine wpAnyH_ready (rs := [6]) (by kernel_rfl) (by simp) (AllReadyH.cons rfl (fun K hK => ?_) (AllReadyH.nil))
    go_simp
    go_at_call 6
    refine (H2.out _ _ HR11.out).mono ?_
    rintro e w12 ⟨rfl, hbp⟩
    refine hK.out _ _ (Lib.hid (hH.out.next hbp)) (fun hH => ?_)
    clear hK K
    clear hbp HR11
    try simp only [Act.put, List.setIfInBounds_toArray, List.set_cons_zero, List.set_cons_succ]
    refine wpAnyH_take (i := 7) (oi := ⟨some 18, _, _, _, _, _⟩) (v := ?v104) rfl (by kernel_rfl) (by kernel_rfl) (by kernel_rfl) (fun _ _ _ h => h) (Or.inl ⟨rfl, ?c104⟩) hH ?r104
    case c104 => (intro w' _; go_simp; (try with_reducible rfl))
    try simp only [Act.put, List.setIfInBounds_toArray, List.set_cons_zero, List.set_cons_succ]
    refine wpAnyH_take (i := 8) (oi := ⟨some 26, _, _, _, _, _⟩) (v := ?v105) rfl (by kernel_rfl) (by kernel_rfl) (by kernel_rfl) (fun _ _ _ h => h) (Or.inl ⟨rfl, ?c105⟩) hH ?r105
    case c105 => (intro w' _; go_simp; (try with_reducible rfl))
    try simp only [Act.put, List.setIfInBounds_toArray, List.set_cons_zero, List.set_cons_succ]
    refine wpAnyH_take (i := 9) (oi := ⟨some 27, _, _, _, _, _⟩) (v := ?v106) rfl (by kernel_rfl) (by kernel_rfl) (by kernel_rfl) (fun _ _ _ h => h) (Or.inl ⟨rfl, ?c106⟩) hH ?r106
    case c106 => (intro w' _; go_simp; (try with_reducible rfl))
    try simp only [Act.put, List.setIfInBounds_toArray, List.set_cons_zero, List.set_cons_succ]
    refine wpAnyH_take (i := 10) (oi := ⟨some 9, _, _, _, _, _⟩) (v := ?v107) rfl (by kernel_rfl) (by kernel_rfl) (by kernel_rfl) (fun _ _ _ h => h) (Or.inl ⟨rfl, ?c107⟩) hH ?r107
    case c107 => (intro w' _; go_simp; (try with_reducible rfl))
    try simp only [Act.put, List.setIfInBounds_toArray, List.set_cons_zero, List.set_cons_succ]
    refine wpAnyH_take (i := 11) (oi := ⟨some 10, _, _, _, _, _⟩) (v := ?v108) rfl (by kernel_rfl) (by kernel_rfl) (by kernel_rfl) (fun _ _ _ h => h) (Or.inl ⟨rfl, ?c108⟩) hH ?r108
    case c108 => (intro w' _; go_simp; (try with_reducible rfl))
    try simp only [Act.put, List.setIfInBounds_toArray, List.set_cons_zero, List.set_cons_succ]
    refine wpAnyH_done (by kernel_rfl) ?_ _
    clear HS
    obtain ⟨t0, t1, t2, t3, t4, t5, t6, t7, t8, t9⟩ := hH.out.r.cells
    obtain ⟨s0, s1, s2, s3, s4, s5, s6⟩ := hH.out.k.cells
    go_wp2_with fail
    go_at_call 10
    refine (HH.out _).mono ?_
    rintro e w13 ⟨rfl, hb13⟩
    have HT := Lib.hid (hH.out.next hb13)
    clear t0 t1 t2 t3 t4 t5 t6 t7 t8 t9 s0 s1 s2 s3 s4 s5 s6 hb13 hH
    have hH := HT
    clear HT
    go_wp2_with fail
    go_at_call 9
    refine (HA.out _).mono ?_
    rintro e w14 ⟨rfl, hb14⟩
    have HT := Lib.hid (hH.out.next hb14)
    clear hb14 hH
    go_wp2_with fail
    go_ret
    exact ⟨rfl, HT.out.k.bel⟩
  · go_simp
    go_at_call 7
    refine (HF.out _ hH.out.k.bel).mono ?_
    rintro e w7 ⟨rfl, rfl⟩
    refine hK.out _ _ (hH) (fun hH => ?_)
    clear hK K
    try simp only [Act.put, List.setIfInBounds_toArray, List.set_cons_zero, List.set_cons_succ]
    refine wpAnyH_ready (rs := [1]) (by kernel_rfl) (by simp) (AllReadyH.cons rfl (fun K hK => ?_) (AllReadyH.nil))
    go_simp
    refine hK.out _ _ (Lib.hid (hH.out.next (below_box _ _))) (fun hH => ?_)
    clear hK K
    have HO : Hid (((w6.alloc (.cells #[.bool r.acc, .int .u8 (r.pr : Int), .int .u32 (r.sa : Int), .int .i64 r.sb, .int .u32 (r.da : Int), .int .i64 r.db, .int .u16 (r.sl : Int), .int .u16 (r.sh : Int), .int .u16 (r.dl : Int), .int .u16 (r.dh : Int)] 32)).drew).ownsRow w6.heap.size 32 10 (.slice (some ⟨w6.heap.size, 0, none⟩) 1 1) ([r] : List R).length (cellsRs [r])) := lit_own w6 r
    have HBL : Hid (Below w6.heap.size w6 ((w6.alloc (.cells #[.bool r.acc, .int .u8 (r.pr : Int), .int .u32 (r.sa : Int), .int .i64 r.sb, .int .u32 (r.da : Int), .int .i64 r.db, .int .u16 (r.sl : Int), .int .u16 (r.sh : Int), .int .u16 (r.dl : Int), .int .u16 (r.dh : Int)] 32)).drew)) := ((Below.refl w6.heap.size w6).alloc (Nat.le_refl _) _).drew
    generalize (w6.alloc (.cells #[.bool r.acc, .int .u8 (r.pr : Int), .int .u32 (r.sa : Int), .int .i64 r.sb, .int .u32 (r.da : Int), .int .i64 r.db, .int .u16 (r.sl : Int), .int .u16 (r.sh : Int), .int .u16 (r.dl : Int), .int .u16 (r.dh : Int)] 32)).drew = w10 at hH HO HBL ⊢
    try simp only [Act.put, List.setIfInBounds_toArray, List.set_cons_zero, List.set_cons_succ]
    refine wpAnyH_ready (rs := [4]) (by kernel_rfl) (by simp) (AllReadyH.cons rfl (fun K hK => ?_) (AllReadyH.nil))
    refine step_append_rds w6 rfl (.tmp 20) (.tmp 22) rfl _ [r] rfl HO.out HBL.out _ A m c (few rs) rfl HM.out (HRF.out _ hH.out.k.bel) HLN.out ?_
    intro v11 w11 ho11 hb11
    change K (Act.put _ (some 23) _) _
    refine hK.out _ _ (Lib.hid (HS.out.next hb11.out)) (fun hH => ?_)
    clear hK K
    have HR11 := Lib.hid (Rds.of_own ho11.out)
    clear HO HBL ho11 hb11
    try simp only [Act.put, List.setIfInBounds_toArray, List.set_cons_zero, List.set_cons_succ]
    refine wpAnyH_ready (rs := [6]) (by kernel_rfl) (by simp) (AllReadyH.cons rfl (fun K hK => ?_) (AllReadyH.nil))
    go_simp
    go_at_call 6
    refine (H2.out _ _ HR11.out).mono ?_
    rintro e w12 ⟨rfl, hbp⟩
    refine hK.out _ _ (Lib.hid (hH.out.next hbp)) (fun hH => ?_)
    clear hK K
    clear hbp HR11
    try simp only [Act.put, List.setIfInBounds_toArray, List.set_cons_zero, List.set_cons_succ]
    refine wpAnyH_take (i := 7) (oi := ⟨some 18, _, _, _, _, _⟩) (v := ?v109) rfl (by kernel_rfl) (by kernel_rfl) (by kernel_rfl) (fun _ _ _ h => h) (Or.inl ⟨rfl, ?c109⟩) hH ?r109
    case c109 => (intro w' _; go_simp; (try with_reducible rfl))
    try simp only [Act.put, List.setIfInBounds_toArray, List.set_cons_zero, List.set_cons_succ]
    refine wpAnyH_take (i := 8) (oi := ⟨some 26, _, _, _, _, _⟩) (v := ?v110) rfl (by kernel_rfl) (by kernel_rfl) (by kernel_rfl) (fun _ _ _ h => h) (Or.inl ⟨rfl, ?c110⟩) hH ?r110
    case c110 => (intro w' _; go_simp; (try with_reducible rfl))
    try simp only [Act.put, List.setIfInBounds_toArray, List.set_cons_zero, List.set_cons_succ]
    refine wpAnyH_take (i := 9) (oi := ⟨some 27, _, _, _, _, _⟩) (v := ?v111) rfl (by kernel_rfl) (by kernel_rfl) (by kernel_rfl) (fun _ _ _ h => h) (Or.inl ⟨rfl, ?c111⟩) hH ?r111
    case c111 => (intro w' _; go_simp; (try with_reducible rfl))
    try simp only [Act.put, List.setIfInBounds_toArray, List.set_cons_zero, List.set_cons_succ]
    refine wpAnyH_take (i := 10) (oi := ⟨some 9, _, _, _, _, _⟩) (v := ?v112) rfl (by kernel_rfl) (by kernel_rfl) (by kernel_rfl) (fun _ _ _ h => h) (Or.inl ⟨rfl, ?c112⟩) hH ?r112
    case c112 => (intro w' _; go_simp; (try with_reducible rfl))
    try simp only [Act.put, List.setIfInBounds_toArray, List.set_cons_zero, List.set_cons_succ]
    refine wpAnyH_take (i := 11) (oi := ⟨some 10, _, _, _, _, _⟩) (v := ?v113) rfl (by kernel_rfl) (by kernel_rfl) (by kernel_rfl) (fun _ _ _ h => h) (Or.inl ⟨rfl, ?c113⟩) hH ?r113
    case c113 => (intro w' _; go_simp; (try with_reducible rfl))
    try simp only [Act.put, List.setIfInBounds_toArray, List.set_cons_zero, List.set_cons_succ]
    refine wpAnyH_done (by kernel_rfl) ?_ _
    clear HS
    obtain ⟨t0, t1, t2, t3, t4, t5, t6, t7, t8, t9⟩ := hH.out.r.cells
    obtain ⟨s0, s1, s2, s3, s4, s5, s6⟩ := hH.out.k.cells
    go_wp2_with fail
    go_at_call 10
    refine (HH.out _).mono ?_
    rintro e w13 ⟨rfl, hb13⟩
    have HT := Lib.hid (hH.out.next hb13)
    clear t0 t1 t2 t3 t4 t5 t6 t7 t8 t9 s0 s1 s2 s3 s4 s5 s6 hb13 hH
    have hH := HT
    clear HT
    go_wp2_with fail
    go_at_call 9
    refine (HA.out _).mono ?_
    rintro e w14 ⟨rfl, hb14⟩
    have HT := Lib.hid (hH.out.next hb14)
    clear hb14 hH
    go_wp2_with fail
    go_ret
    exact ⟨rfl, HT.out.k.bel⟩
theorem matchAhead_walk (A : Option Addr) (n c : Nat) (rs : List R) (r : R) (p0 p1 p2 p3 p4 p5 p6 : Int) (w : World) (h0 : Rds w w.heap.size (.slice A n c) rs ∧ ∀ r ∈ rs, r.Ok) (ho : r.Ok)
    (hp : (0 ≤ p0 ∧ p0 ≤ 255) ∧ (0 ≤ p1 ∧ p1 ≤ 4294967295) ∧ (0 ≤ p2 ∧ p2 ≤ 4294967295) ∧ (0 ≤ p3 ∧ p3 ≤ 65535) ∧ (0 ≤ p4 ∧ p4 ≤ 65535) ∧ (0 ≤ p5 ∧ p5 ≤ 255) ∧ (0 ≤ p6 ∧ p6 ≤ 255)) :
    Calls Try.prog 4 #[.slice A n c, .agg #[.bool r.acc, .int .u8 (r.pr : Int), .int .u32 (r.sa : Int), .int .i64 r.sb, .int .u32 (r.da : Int), .int .i64 r.db, .int .u16 (r.sl : Int), .int .u16 (r.sh : Int), .int .u16 (r.dl : Int), .int .u16 (r.dh : Int)], .agg #[.int .u8 p0, .int .u32 p1, .int .u32 p2, .int .u16 p3, .int .u16 p4, .int .u8 p5, .int .u8 p6]] w fun e w' => e = .returned (.bool true) ∧ Below w.heap.size w w' := by
  obtain ⟨k, hk, rfl, rfl, rfl, rfl, rfl, rfl, rfl⟩ := k_of hp
  cases hh : hitB r k with
  | true => exact ahead_1 A n c rs r k w h0 ho hk hh
  | false =>
    cases hf : fst k (few rs) with
    | none => exact ahead_2 A n c rs r k w h0 ho hk hh hf
    | some i => exact ahead_3 A n c rs r k w h0 ho hk hh i hf
end Ma
end Go.Proofs.Ytaniiofoaaekbaa
