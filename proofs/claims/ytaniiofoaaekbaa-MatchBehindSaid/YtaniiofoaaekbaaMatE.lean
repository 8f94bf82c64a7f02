/- Layer 13: the contract of the reference's First. (Written by wip/tools/mkMatE.py.) -/
import Derived.Test.YtaniiofoaaekbaaMatB
import Derived.Test.YtaniiofoaaekbaaMatC
set_option linter.unusedVariables false
set_option linter.unusedSimpArgs false
namespace Go.Proofs.Ytaniiofoaaekbaa
open Go.ChangeShapes Go.WideShapes Go.ChangeAt Go.RowKit Go.Mtl Go.Lib
namespace Ma
open RulM (R)
open MatM (K hitB fst idxI accB fst_hit fst_none fst_some accB_at)

set_option maxHeartbeats 2000000 in
theorem refFirst_any (A : Option Addr) (n c : Nat) (rs : List R) (k : K) (hk : k.Ok) (w : World) (hn : rs.length = n) (hr : Rds w w.heap.size (.slice A n c) rs) (ho : ∀ r ∈ rs, r.Ok) (hm : n ≤ maxLen) :
    Calls Try.prog 8 #[.slice A n c, .agg #[.int .u8 (k.pr : Int), .int .u32 (k.sr : Int), .int .u32 (k.ds : Int), .int .u16 (k.sp : Int), .int .u16 (k.dp : Int), .int .u8 (k.fl : Int), .int .u8 (k.kd : Int)]] w
      fun e w' => e = .returned (.tuple #[.int .i64 (idxI (fst k rs)), .bool (accB rs (fst k rs))]) ∧ Below w.heap.size w w' := by
  have HK := Lib.hid (KAt.box w k)
  have HRS := Lib.hid hr
  have HN := Lib.hid hn
  have HO := Lib.hid ho
  have HKO := Lib.hid hk
  unfold maxLen at hm
  clear hk hn hr ho
  go_enter Try.func8, Try.ntmps8
  go_wp2_with fail
  go_loopw [6] (fun i wr => ∃ j : Nat, j ≤ n ∧ i = .int .i64 (j : Int) ∧ Hid (KAt w w.heap.size k wr) ∧ Hid (∀ (i : Nat) q, i < j → rs[i]? = some q → hitB q k = false)) (fun i _ => n - (RowKit.intOf i).toNat)
  case atStart => exact ⟨0, by omega, rfl, HK, (show Hid _ from fun i q hi => absurd hi (Nat.not_lt_zero _))⟩
  case round =>
    obtain ⟨j, hj, rfl, HKW, hbe⟩ := hrel
    by_cases hlt : j < n
    · obtain ⟨r, hrj⟩ : ∃ x, rs[j]? = some x := ⟨_, List.getElem?_eq_getElem (by have := HN.out; omega)⟩
      obtain ⟨b, off, cap, hv, hg, ht⟩ := ten_at HRS.out hrj
      injection hv with hv1 hv2 hv3
      subst hv1 hv3
      have HM := Lib.hid (fun W => refMatches_any r k (HO.out r (List.mem_of_getElem? hrj)) HKO.out W)
      have HT := Lib.hid (ht.below HKW.out.bel hg)
      have HRJ := Lib.hid hrj
      have HA := Lib.hid (accB_at hrj)
      have HG := Lib.hid hg
      clear hrj ht hv2 hg
      cases hh : hitB r k with
      | true =>
        rw [hh] at HM
        have HF : Hid (fst k rs = some j) := fst_hit HRJ.out hh hbe.out
        clear hh
        go_wp2_with fail
        refine wp_region_held_drew (S := fun w' => Hid (Ten w' b (off + j * 10) r) ∧ Hid (KAt w w.heap.size k w')) (by kernel_rfl) (⟨HT, HKW.out.blk, HKW.out.bel.drew⟩) (fun hH => ?_)
        refine wpAnyH_take (i := 0) (oi := ⟨some 13, _, _, _, _, _⟩) (v := ?v1) rfl (by kernel_rfl) (by kernel_rfl) (by kernel_rfl) (fun _ _ _ h => h) (Or.inl ⟨rfl, ?c1⟩) hH ?r1
        case c1 => (intro w' _; go_simp; (try with_reducible rfl))
        try simp only [Act.put, List.setIfInBounds_toArray, List.set_cons_zero, List.set_cons_succ]
        refine wpAnyH_take (i := 1) (oi := ⟨some 14, _, _, _, _, _⟩) (v := ?v2) rfl (by kernel_rfl) (by kernel_rfl) (by kernel_rfl) (fun _ _ _ h => h) (Or.inl ⟨rfl, ?c2⟩) hH ?r2
        case c2 => (intro w' _; go_simp; (try with_reducible rfl))
        try simp only [Act.put, List.setIfInBounds_toArray, List.set_cons_zero, List.set_cons_succ]
        refine wpAnyH_take (i := 2) (oi := ⟨some 15, _, _, _, _, _⟩) (v := ?v3) rfl (by kernel_rfl) (by kernel_rfl) (by kernel_rfl) (fun _ _ _ h => h) (Or.inl ⟨rfl, ?c3⟩) hH ?r3
        case c3 => (intro w' _; go_simp; (try with_reducible rfl))
        try simp only [Act.put, List.setIfInBounds_toArray, List.set_cons_zero, List.set_cons_succ]
        refine wpAnyH_take (i := 3) (oi := ⟨some 16, _, _, _, _, _⟩) (v := ?v4) rfl (by kernel_rfl) (by kernel_rfl) (by kernel_rfl) (fun _ _ _ h => h) (Or.inl ⟨rfl, ?c4⟩) hH ?r4
        case c4 => (intro w' hS; obtain ⟨t0, t1, t2, t3, t4, t5, t6, t7, t8, t9⟩ := hS.1.out; go_simp; (try with_reducible rfl))
        try simp only [Act.put, List.setIfInBounds_toArray, List.set_cons_zero, List.set_cons_succ]
        refine wpAnyH_take (i := 4) (oi := ⟨some 17, _, _, _, _, _⟩) (v := ?v5) rfl (by kernel_rfl) (by kernel_rfl) (by kernel_rfl) (fun _ _ _ h => h) (Or.inl ⟨rfl, ?c5⟩) hH ?r5
        case c5 => (intro w' hS; obtain ⟨t0, t1, t2, t3, t4, t5, t6⟩ := hS.2.out.cells; go_simp; (try with_reducible rfl))
        try simp only [Act.put, List.setIfInBounds_toArray, List.set_cons_zero, List.set_cons_succ]
        refine wpAnyH_ready (rs := [5]) (by kernel_rfl) (by simp) (AllReadyH.cons rfl (fun K hK => ?_) (AllReadyH.nil))
        go_simp
        go_at_call 11
        refine (HM.out _).mono ?_
        rintro e w6 ⟨rfl, hbp⟩
        refine hK.out _ _ (⟨Lib.hid (hH.1.out.below hbp (Nat.lt_of_lt_of_le HG.out (hH.2.out.bel.size))), Lib.hid (hH.2.out.next hbp)⟩) (fun hH => ?_)
        clear hK K
        clear hbp
        try simp only [Act.put, List.setIfInBounds_toArray, List.set_cons_zero, List.set_cons_succ]
        refine wpAnyH_done (by kernel_rfl) ?_ _
        have HTw := Lib.hid hH.1.out
        have HKw := Lib.hid hH.2.out
        have x0 := HTw.out.1
        clear hH
        go_wp2_with fail
        go_quiet (fail)
        go_wp2_with fail
        exact bodyPost_ret (v := .tuple #[.int .i64 (j : Int), .bool r.acc]) (by simp [results, Try.results8, go_sem]) rfl ⟨by rw [HF.out, HA.out]; rfl, HKw.out.bel.drews _⟩
      | false =>
        rw [hh] at HM
        have HF : Hid (∀ (i : Nat) q, i < j + 1 → rs[i]? = some q → hitB q k = false) := by
          show ∀ (i : Nat) q, i < j + 1 → rs[i]? = some q → hitB q k = false
          intro i q hi hq
          by_cases e : i = j
          · subst e
            rw [HRJ.out] at hq
            injection hq with hq
            rw [← hq]; exact hh
          · exact hbe.out i q (by omega) hq
        clear hh
        go_wp2_with fail
        refine wp_region_held_drew (S := fun w' => Hid (Ten w' b (off + j * 10) r) ∧ Hid (KAt w w.heap.size k w')) (by kernel_rfl) (⟨HT, HKW.out.blk, HKW.out.bel.drew⟩) (fun hH => ?_)
        refine wpAnyH_take (i := 0) (oi := ⟨some 13, _, _, _, _, _⟩) (v := ?v51) rfl (by kernel_rfl) (by kernel_rfl) (by kernel_rfl) (fun _ _ _ h => h) (Or.inl ⟨rfl, ?c51⟩) hH ?r51
        case c51 => (intro w' _; go_simp; (try with_reducible rfl))
        try simp only [Act.put, List.setIfInBounds_toArray, List.set_cons_zero, List.set_cons_succ]
        refine wpAnyH_take (i := 1) (oi := ⟨some 14, _, _, _, _, _⟩) (v := ?v52) rfl (by kernel_rfl) (by kernel_rfl) (by kernel_rfl) (fun _ _ _ h => h) (Or.inl ⟨rfl, ?c52⟩) hH ?r52
        case c52 => (intro w' _; go_simp; (try with_reducible rfl))
        try simp only [Act.put, List.setIfInBounds_toArray, List.set_cons_zero, List.set_cons_succ]
        refine wpAnyH_take (i := 2) (oi := ⟨some 15, _, _, _, _, _⟩) (v := ?v53) rfl (by kernel_rfl) (by kernel_rfl) (by kernel_rfl) (fun _ _ _ h => h) (Or.inl ⟨rfl, ?c53⟩) hH ?r53
        case c53 => (intro w' _; go_simp; (try with_reducible rfl))
        try simp only [Act.put, List.setIfInBounds_toArray, List.set_cons_zero, List.set_cons_succ]
        refine wpAnyH_take (i := 3) (oi := ⟨some 16, _, _, _, _, _⟩) (v := ?v54) rfl (by kernel_rfl) (by kernel_rfl) (by kernel_rfl) (fun _ _ _ h => h) (Or.inl ⟨rfl, ?c54⟩) hH ?r54
        case c54 => (intro w' hS; obtain ⟨t0, t1, t2, t3, t4, t5, t6, t7, t8, t9⟩ := hS.1.out; go_simp; (try with_reducible rfl))
        try simp only [Act.put, List.setIfInBounds_toArray, List.set_cons_zero, List.set_cons_succ]
        refine wpAnyH_take (i := 4) (oi := ⟨some 17, _, _, _, _, _⟩) (v := ?v55) rfl (by kernel_rfl) (by kernel_rfl) (by kernel_rfl) (fun _ _ _ h => h) (Or.inl ⟨rfl, ?c55⟩) hH ?r55
        case c55 => (intro w' hS; obtain ⟨t0, t1, t2, t3, t4, t5, t6⟩ := hS.2.out.cells; go_simp; (try with_reducible rfl))
        try simp only [Act.put, List.setIfInBounds_toArray, List.set_cons_zero, List.set_cons_succ]
        refine wpAnyH_ready (rs := [5]) (by kernel_rfl) (by simp) (AllReadyH.cons rfl (fun K hK => ?_) (AllReadyH.nil))
        go_simp
        go_at_call 11
        refine (HM.out _).mono ?_
        rintro e w6 ⟨rfl, hbp⟩
        refine hK.out _ _ (⟨Lib.hid (hH.1.out.below hbp (Nat.lt_of_lt_of_le HG.out (hH.2.out.bel.size))), Lib.hid (hH.2.out.next hbp)⟩) (fun hH => ?_)
        clear hK K
        clear hbp
        try simp only [Act.put, List.setIfInBounds_toArray, List.set_cons_zero, List.set_cons_succ]
        refine wpAnyH_done (by kernel_rfl) ?_ _
        have HKw := Lib.hid hH.2.out
        clear hH
        go_wp2_with fail
        go_roundw
        case rel => exact ⟨j + 1, by omega, by go_num, HKw, HF⟩
        case measure => simp [RowKit.intOf]; omega
    · obtain rfl : j = n := by omega
      have HF : Hid (fst k rs = none) := fst_none fun i q hq => hbe.out i q (by have := (List.getElem?_eq_some_iff.1 hq).1; have := HN.out; omega) hq
      go_wp2_with fail
      exact bodyPost_ret (v := .tuple #[.int .i64 (-1), .bool false]) (by simp [results, Try.results8, go_sem]) rfl ⟨by rw [HF.out]; rfl, HKW.out.bel⟩
end Ma
end Go.Proofs.Ytaniiofoaaekbaa
