/- Layer 18: the walk of AutoPlays. (Written by wip/tools/mkAulX.py.) -/
import Derived.Test.YtgcnhbjoalemlaaGreatDoorJ50
set_option linter.unusedVariables false
set_option linter.unusedSimpArgs false
set_option maxRecDepth 100000
namespace Go.Proofs.YtgcnhbjoalemlaaGreatDoor
open Go.ChangeShapes Go.WideShapes Go.ChangeAt Go.RowKit Go.Mtl Go.Lib
namespace Au
open AutM
open RulM (R)
open MatM (K fst accB)
/-- No flow of protocol 99. -/
def NoX (s : St) : Prop := ∀ f ∈ s.fs, f.k.r ≠ 99
section
variable {N : Int} {T : Nat → Int} {s : St}
theorem NoX.drop (H : NoX s) (k : Ke) : NoX (dropS s k) := by
  unfold dropS
  cases find k s.fs with
  | none => exact H
  | some f => exact fun g hg => H g (mem_drop.1 hg).1
theorem NoX.del (H : NoX s) (k : Ke) : NoX (delS s k) := by
  unfold delS
  split
  · exact H.drop k
  · exact H
theorem folF_k (c : Int) (f : Fl) (p : K) : (folF T c f p).k = f.k := by unfold folF; split <;> rfl
theorem ope_99 {p : K} (h : opeV N s p = 1) : (keyP p).r ≠ 99 := by
  have hk : (keyP p).r = p.pr := by unfold keyP; split <;> rfl
  rw [hk]
  intro e
  have hb : opeB p = false := by
    unfold opeB Fs.opB
    rw [e, if_neg (by decide)]
    exact decide_eq_false (by omega)
  unfold opeV at h
  rw [hb] at h
  split at h
  · cases h
  · simp at h
theorem NoX.act (H : NoX s) (p : K) : NoX (actS N T s p) := by
  have H1 := H.del (keyP p)
  unfold actS
  cases hf : find (keyP p) (delS s (keyP p)).fs with
  | some f =>
    intro g hg
    rcases mem_put hg with e | hg
    · rw [e, folF_k]; exact H1 f (find_some hf).1
    · exact H1 g hg
  | none =>
    unfold opeS
    simp only
    split
    · rename_i h1
      intro g hg
      rcases mem_ins.1 hg with e | hg
      · rw [e]; exact ope_99 h1
      · exact H1 g hg
    · exact H1
theorem NoX.step (H : NoX s) (x : Dk) : NoX (stepD N T s x) := by
  unfold stepD
  split
  · exact H
  · split
    · unfold swapS; split <;> exact H
    · split
      · exact H.del x.k
      · split
        · exact H.drop x.k
        · split
          · unfold countS; split <;> exact H
          · exact H.act x.p
def runD (N : Int) (T : Nat → Int) (s : St) (xs : List Dk) : St := xs.foldl (stepD N T) s
theorem NoX.run {xs : List Dk} (H : NoX s) : NoX (runD N T s xs) := by
  unfold runD
  induction xs generalizing s with
  | nil => exact H
  | cons x xs ih => exact ih (H.step x)
theorem runD_snoc (xs : List Dk) (x : Dk) : runD N T s (xs ++ [x]) = stepD N T (runD N T s xs) x := by
  unfold runD
  rw [List.foldl_append]
  rfl
theorem NoX.none (H : NoX s) : find ⟨0, 0, 0, 0, 99⟩ s.fs = Option.none := by
  cases h : find ⟨0, 0, 0, 0, 99⟩ s.fs with
  | none => rfl
  | some f =>
    obtain ⟨h1, h2⟩ := find_some h
    exact absurd (by rw [h2]) (H f h1)
end
set_option maxHeartbeats 8000000 in
theorem autoPlays_no (z N : Int) (T : Nat → Int) (A : Option Addr) (m c : Nat) (rs : List R) (Aa : Option Addr) (len cap : Nat) (xs : List Dk) (W : World) (he : Env W) (hcfg : (-9223372036854775808 ≤ z ∧ z ≤ 9223372036854775807) ∧ (-9223372036854775808 ≤ N ∧ N ≤ 9223372036854775807) ∧ ∀ i, -9223372036854775808 ≤ T i ∧ T i ≤ 9223372036854775807) (hr : Rds W W.heap.size (.slice A m c) rs ∧ ∀ r ∈ rs, r.Ok) (hx : xs.length = len ∧ Das W W.heap.size (.slice Aa len cap) xs ∧ ∀ x ∈ xs, x.Ok) (h0 : chkE z N (few rs) ≠ 0) :
    Calls Tryz.prog 3 #[.agg (cfc z N T), .slice A m c, .slice Aa len cap] W fun e w' => e = .returned (.bool true) ∧ Below W.heap.size W w' := by
  obtain ⟨hz, -, htm⟩ := hcfg
  obtain ⟨hrd, hro⟩ := hr
  obtain ⟨hl, hd, hxo⟩ := hx
  have hm : rs.length = m := by obtain ⟨A', c', e, _⟩ := hrd; injection e with _ e2 _; exact e2.symm
  have HFW : Hid (∀ W', Below W.heap.size W W' → Calls Tryz.prog 5 #[.slice A m c] W' fun e w' => e = .returned (.slice A (few rs).length c) ∧ W' = w') := fun W' h => few_any A m c rs W' hm (Rds.only hrd (Only.of_below h : Only (fun _ => False) W W') (fun _ _ _ _ _ e => e))
  have HRW : Hid (∀ W', Below W.heap.size W W' → Rds W' W'.heap.size (.slice A (few rs).length c) (few rs)) := fun W' h => few_rds (Rds.only hrd (Only.of_below h : Only (fun _ => False) W W') (fun _ _ _ _ _ e => e))
  have HOK := Lib.hid (few_ok hro)
  have HF7 : Hid ((few rs).length ≤ 100000) := by show _ ≤ _; have := (few_len rs).1; omega
  have HX1 := Lib.hid (Blk.box W (cfc z N T) 24)
  have HB1 := Lib.hid (below_box W (.cells (cfc z N T) 24))
  have HE := Lib.hid he
  have HZ := Lib.hid hz
  have HTM := Lib.hid htm
  have HCK : Hid (∀ W', Below W.heap.size W W' → Calls Tryz.prog 8 #[.agg (cfc z N T), .slice A (few rs).length c] W' fun e w' => e = .returned (.int .i64 (chkE z N (few rs))) ∧ Below W'.heap.size W' w') := fun W' h =>
    check_p z N T hz (he.below h) A (few rs).length c (few rs) rfl (HRW.out W' h) HOK.out
  have HNW : Hid (∀ W', Below W.heap.size W W' → Calls Tryz.prog 4 #[.agg (cfc z N T), .slice A (few rs).length c] W' fun e w' => e = .returned (.tuple #[.pointer none, .int .i64 (chkE z N (few rs))]) ∧ Below W'.heap.size W' w') := fun W' h =>
    new_bad z N T hz htm (he.below h) A (few rs).length c (few rs) rfl (HRW.out W' h) HOK.out HF7.out h0
  have HNR : Hid (∀ W', Below W.heap.size W W' → Calls Tryz.prog 6 #[.agg (cfc z N T), .slice A (few rs).length c] W' fun e w' => e = .returned (.tuple #[.pointer none, .int .i64 (chkE z N (few rs))]) ∧ Below W'.heap.size W' w') := fun W' h =>
    refNew_bad z N T A (few rs).length c (few rs) rfl (HRW.out W' h) HOK.out h0
  generalize chkE z N (few rs) = ce at HCK HNW HNR h0
  have d0 : (ce != 0) = true := by simpa using h0
  clear HRW
  generalize (few rs).length = fl at HFW HNW HNR HCK
  clear he hrd hro hl hd hxo hz htm hm h0
  go_enter Tryz.func3, Tryz.ntmps3
  go_wp2_with fail
  refine wp_region_held_drew (S := fun w' => Blk w' W.heap.size (cfc z N T) 24 ∧ Below W.heap.size W w') (by kernel_rfl) (⟨HX1.out.drew, HB1.out.drew⟩) (fun hH => ?_)
  refine wpAnyH_take (i := 0) (oi := ⟨some 15, _, _, _, _, _⟩) (v := ?v1) rfl (by kernel_rfl) (by kernel_rfl) (by kernel_rfl) (fun _ _ _ h => h) (Or.inl ⟨rfl, ?c1⟩) hH ?r1
  case c1 => (intro w' hS; refine take_cfg hS.1 (.tmp 3) ?_ ?_ <;> rfl)
  try simp only [Act.put, List.setIfInBounds_toArray, List.set_cons_zero, List.set_cons_succ]
  refine wpAnyH_take (i := 1) (oi := ⟨some 16, _, _, _, _, _⟩) (v := ?v2) rfl (by kernel_rfl) (by kernel_rfl) (by kernel_rfl) (fun _ _ _ h => h) (Or.inl ⟨rfl, ?c2⟩) hH ?r2
  case c2 => (intro w' _; go_simp; (try with_reducible rfl))
  try simp only [Act.put, List.setIfInBounds_toArray, List.set_cons_zero, List.set_cons_succ]
  refine wpAnyH_ready (rs := [2]) (by kernel_rfl) (by simp) (AllReadyH.cons rfl (fun K hK => ?_) (AllReadyH.nil))
  go_simp
  go_at_call 5
  refine (HFW.out _ hH.2).mono ?_
  rintro e w5 ⟨rfl, rfl⟩
  refine hK.out _ _ (hH) (fun hH => ?_)
  clear hK K
  try simp only [Act.put, List.setIfInBounds_toArray, List.set_cons_zero, List.set_cons_succ]
  refine wpAnyH_ready (rs := [3]) (by kernel_rfl) (by simp) (AllReadyH.cons rfl (fun K hK => ?_) (AllReadyH.nil))
  go_simp
  go_at_call 4
  refine (HNW.out _ hH.2).mono ?_
  rintro e w6 ⟨rfl, hb⟩
  refine hK.out _ _ (⟨hH.1.next hb, hH.2.trans (hb.mono hH.2.size)⟩) (fun hH => ?_)
  clear hK K
  clear hb
  try simp only [Act.put, List.setIfInBounds_toArray, List.set_cons_zero, List.set_cons_succ]
  refine wpAnyH_take (i := 4) (oi := ⟨some 14, _, _, _, _, _⟩) (v := ?v3) rfl (by kernel_rfl) (by kernel_rfl) (by kernel_rfl) (fun _ _ _ h => h) (Or.inl ⟨rfl, ?c3⟩) hH ?r3
  case c3 => (intro w' _; go_simp; (try with_reducible rfl))
  try simp only [Act.put, List.setIfInBounds_toArray, List.set_cons_zero, List.set_cons_succ]
  refine wpAnyH_take (i := 5) (oi := ⟨some 19, _, _, _, _, _⟩) (v := ?v4) rfl (by kernel_rfl) (by kernel_rfl) (by kernel_rfl) (fun _ _ _ h => h) (Or.inl ⟨rfl, ?c4⟩) hH ?r4
  case c4 => (intro w' _; go_simp; (try with_reducible rfl))
  try simp only [Act.put, List.setIfInBounds_toArray, List.set_cons_zero, List.set_cons_succ]
  refine wpAnyH_take (i := 6) (oi := ⟨some 20, _, _, _, _, _⟩) (v := ?v5) rfl (by kernel_rfl) (by kernel_rfl) (by kernel_rfl) (fun _ _ _ h => h) (Or.inl ⟨rfl, ?c5⟩) hH ?r5
  case c5 => (intro w' _; go_simp; (try with_reducible rfl))
  try simp only [Act.put, List.setIfInBounds_toArray, List.set_cons_zero, List.set_cons_succ]
  refine wpAnyH_take (i := 7) (oi := ⟨some 7, _, _, _, _, _⟩) (v := ?v6) rfl (by kernel_rfl) (by kernel_rfl) (by kernel_rfl) (fun _ _ _ h => h) (Or.inl ⟨rfl, ?c6⟩) hH ?r6
  case c6 => (intro w' _; go_simp; (try with_reducible rfl))
  try simp only [Act.put, List.setIfInBounds_toArray, List.set_cons_zero, List.set_cons_succ]
  refine wpAnyH_take (i := 8) (oi := ⟨some 8, _, _, _, _, _⟩) (v := ?v7) rfl (by kernel_rfl) (by kernel_rfl) (by kernel_rfl) (fun _ _ _ h => h) (Or.inl ⟨rfl, ?c7⟩) hH ?r7
  case c7 => (intro w' _; go_simp; (try with_reducible rfl))
  try simp only [Act.put, List.setIfInBounds_toArray, List.set_cons_zero, List.set_cons_succ]
  refine wpAnyH_done (by kernel_rfl) ?_ _
  go_wp2_with fail
  refine wp_region_held_drew (S := fun w' => Blk w' W.heap.size (cfc z N T) 24 ∧ Below W.heap.size W w') (by kernel_rfl) (⟨hH.1.drew, hH.2.drew⟩) (fun hH => ?_)
  refine wpAnyH_take (i := 0) (oi := ⟨some 22, _, _, _, _, _⟩) (v := ?v301) rfl (by kernel_rfl) (by kernel_rfl) (by kernel_rfl) (fun _ _ _ h => h) (Or.inl ⟨rfl, ?c301⟩) hH ?r301
  case c301 => (intro w' hS; refine take_cfg hS.1 (.tmp 3) ?_ ?_ <;> rfl)
  try simp only [Act.put, List.setIfInBounds_toArray, List.set_cons_zero, List.set_cons_succ]
  refine wpAnyH_take (i := 1) (oi := ⟨some 23, _, _, _, _, _⟩) (v := ?v302) rfl (by kernel_rfl) (by kernel_rfl) (by kernel_rfl) (fun _ _ _ h => h) (Or.inl ⟨rfl, ?c302⟩) hH ?r302
  case c302 => (intro w' _; go_simp; (try with_reducible rfl))
  try simp only [Act.put, List.setIfInBounds_toArray, List.set_cons_zero, List.set_cons_succ]
  refine wpAnyH_ready (rs := [2]) (by kernel_rfl) (by simp) (AllReadyH.cons rfl (fun K hK => ?_) (AllReadyH.nil))
  go_simp
  go_at_call 5
  refine (HFW.out _ hH.2).mono ?_
  rintro e w5 ⟨rfl, rfl⟩
  refine hK.out _ _ (hH) (fun hH => ?_)
  clear hK K
  try simp only [Act.put, List.setIfInBounds_toArray, List.set_cons_zero, List.set_cons_succ]
  refine wpAnyH_ready (rs := [3]) (by kernel_rfl) (by simp) (AllReadyH.cons rfl (fun K hK => ?_) (AllReadyH.nil))
  go_simp
  go_at_call 6
  refine (HNR.out _ hH.2).mono ?_
  rintro e w6 ⟨rfl, hb⟩
  refine hK.out _ _ (⟨hH.1.next hb, hH.2.trans (hb.mono hH.2.size)⟩) (fun hH => ?_)
  clear hK K
  clear hb
  try simp only [Act.put, List.setIfInBounds_toArray, List.set_cons_zero, List.set_cons_succ]
  refine wpAnyH_take (i := 4) (oi := ⟨some 21, _, _, _, _, _⟩) (v := ?v303) rfl (by kernel_rfl) (by kernel_rfl) (by kernel_rfl) (fun _ _ _ h => h) (Or.inl ⟨rfl, ?c303⟩) hH ?r303
  case c303 => (intro w' _; go_simp; (try with_reducible rfl))
  try simp only [Act.put, List.setIfInBounds_toArray, List.set_cons_zero, List.set_cons_succ]
  refine wpAnyH_take (i := 5) (oi := ⟨some 26, _, _, _, _, _⟩) (v := ?v304) rfl (by kernel_rfl) (by kernel_rfl) (by kernel_rfl) (fun _ _ _ h => h) (Or.inl ⟨rfl, ?c304⟩) hH ?r304
  case c304 => (intro w' _; go_simp; (try with_reducible rfl))
  try simp only [Act.put, List.setIfInBounds_toArray, List.set_cons_zero, List.set_cons_succ]
  refine wpAnyH_take (i := 6) (oi := ⟨some 27, _, _, _, _, _⟩) (v := ?v305) rfl (by kernel_rfl) (by kernel_rfl) (by kernel_rfl) (fun _ _ _ h => h) (Or.inl ⟨rfl, ?c305⟩) hH ?r305
  case c305 => (intro w' _; go_simp; (try with_reducible rfl))
  try simp only [Act.put, List.setIfInBounds_toArray, List.set_cons_zero, List.set_cons_succ]
  refine wpAnyH_take (i := 7) (oi := ⟨some 9, _, _, _, _, _⟩) (v := ?v306) rfl (by kernel_rfl) (by kernel_rfl) (by kernel_rfl) (fun _ _ _ h => h) (Or.inl ⟨rfl, ?c306⟩) hH ?r306
  case c306 => (intro w' _; go_simp; (try with_reducible rfl))
  try simp only [Act.put, List.setIfInBounds_toArray, List.set_cons_zero, List.set_cons_succ]
  refine wpAnyH_take (i := 8) (oi := ⟨some 10, _, _, _, _, _⟩) (v := ?v307) rfl (by kernel_rfl) (by kernel_rfl) (by kernel_rfl) (fun _ _ _ h => h) (Or.inl ⟨rfl, ?c307⟩) hH ?r307
  case c307 => (intro w' _; go_simp; (try with_reducible rfl))
  try simp only [Act.put, List.setIfInBounds_toArray, List.set_cons_zero, List.set_cons_succ]
  refine wpAnyH_done (by kernel_rfl) ?_ _
  go_wp2_with fail
  refine wp_region_held_drew (S := fun w' => Blk w' W.heap.size (cfc z N T) 24 ∧ Below W.heap.size W w') (by kernel_rfl) (⟨hH.1.drew, hH.2.drew⟩) (fun hH => ?_)
  refine wpAnyH_ready (rs := [0]) (by kernel_rfl) (by simp) (AllReadyH.cons rfl (fun K hK => ?_) (AllReadyH.nil))
  go_simp
  go_at_call 7
  refine (awake_any _ (HE.out.below hH.2)).mono ?_
  rintro e w6 ⟨rfl, hb⟩
  refine hK.out _ _ (⟨hH.1.next hb, hH.2.trans (hb.mono hH.2.size)⟩) (fun hH => ?_)
  clear hK K
  clear hb
  try simp only [Act.put, List.setIfInBounds_toArray, List.set_cons_zero, List.set_cons_succ]
  refine wpAnyH_take (i := 1) (oi := ⟨some 31, _, _, _, _, _⟩) (v := ?v601) rfl (by kernel_rfl) (by kernel_rfl) (by kernel_rfl) (fun _ _ _ h => h) (Or.inl ⟨rfl, ?c601⟩) hH ?r601
  case c601 => (intro w' _; go_simp; (try with_reducible rfl))
  try simp only [Act.put, List.setIfInBounds_toArray, List.set_cons_zero, List.set_cons_succ]
  refine wpAnyH_take (i := 2) (oi := ⟨some 32, _, _, _, _, _⟩) (v := ?v602) rfl (by kernel_rfl) (by kernel_rfl) (by kernel_rfl) (fun _ _ _ h => h) (Or.inl ⟨rfl, ?c602⟩) hH ?r602
  case c602 => (intro w' _; go_simp; (try with_reducible rfl))
  try simp only [Act.put, List.setIfInBounds_toArray, List.set_cons_zero, List.set_cons_succ]
  refine wpAnyH_take (i := 3) (oi := ⟨some 33, _, _, _, _, _⟩) (v := ?v603) rfl (by kernel_rfl) (by kernel_rfl) (by kernel_rfl) (fun _ _ _ h => h) (Or.inl ⟨rfl, ?c603⟩) hH ?r603
  case c603 => (intro w' _; go_simp; (try with_reducible rfl))
  try simp only [Act.put, List.setIfInBounds_toArray, List.set_cons_zero, List.set_cons_succ]
  refine wpAnyH_take (i := 4) (oi := ⟨some 34, _, _, _, _, _⟩) (v := ?v604) rfl (by kernel_rfl) (by kernel_rfl) (by kernel_rfl) (fun _ _ _ h => h) (Or.inl ⟨rfl, ?c604⟩) hH ?r604
  case c604 => (intro w' _; go_simp; (try with_reducible rfl))
  try simp only [Act.put, List.setIfInBounds_toArray, List.set_cons_zero, List.set_cons_succ]
  refine wpAnyH_take (i := 5) (oi := ⟨some 35, _, _, _, _, _⟩) (v := ?v605) rfl (by kernel_rfl) (by kernel_rfl) (by kernel_rfl) (fun _ _ _ h => h) (Or.inl ⟨rfl, ?c605⟩) hH ?r605
  case c605 => (intro w' _; go_simp; (try with_reducible rfl))
  try simp only [Act.put, List.setIfInBounds_toArray, List.set_cons_zero, List.set_cons_succ]
  refine wpAnyH_take (i := 6) (oi := ⟨some 36, _, _, _, _, _⟩) (v := ?v606) rfl (by kernel_rfl) (by kernel_rfl) (by kernel_rfl) (fun _ _ _ h => h) (Or.inl ⟨rfl, ?c606⟩) hH ?r606
  case c606 => (intro w' _; go_simp; (try with_reducible rfl))
  try simp only [Act.put, List.setIfInBounds_toArray, List.set_cons_zero, List.set_cons_succ]
  refine wpAnyH_take (i := 7) (oi := ⟨some 37, _, _, _, _, _⟩) (v := ?v607) rfl (by kernel_rfl) (by kernel_rfl) (by kernel_rfl) (fun _ _ _ h => h) (Or.inl ⟨rfl, ?c607⟩) hH ?r607
  case c607 => (intro w' _; go_simp; (try with_reducible rfl))
  try simp only [Act.put, List.setIfInBounds_toArray, List.set_cons_zero, List.set_cons_succ]
  refine wpAnyH_take (i := 8) (oi := ⟨some 38, _, _, _, _, _⟩) (v := ?v608) rfl (by kernel_rfl) (by kernel_rfl) (by kernel_rfl) (fun _ _ _ h => h) (Or.inl ⟨rfl, ?c608⟩) hH ?r608
  case c608 => (intro w' _; go_simp; (try with_reducible rfl))
  try simp only [Act.put, List.setIfInBounds_toArray, List.set_cons_zero, List.set_cons_succ]
  refine wpAnyH_take (i := 9) (oi := ⟨some 39, _, _, _, _, _⟩) (v := ?v609) rfl (by kernel_rfl) (by kernel_rfl) (by kernel_rfl) (fun _ _ _ h => h) (Or.inl ⟨rfl, ?c609⟩) hH ?r609
  case c609 => (intro w' _; go_simp; (try with_reducible rfl))
  try simp only [Act.put, List.setIfInBounds_toArray, List.set_cons_zero, List.set_cons_succ]
  refine wpAnyH_take (i := 10) (oi := ⟨some 40, _, _, _, _, _⟩) (v := ?v610) rfl (by kernel_rfl) (by kernel_rfl) (by kernel_rfl) (fun _ _ _ h => h) (Or.inl ⟨rfl, ?c610⟩) hH ?r610
  case c610 => (intro w' _; go_simp; (try with_reducible rfl))
  try simp only [Act.put, List.setIfInBounds_toArray, List.set_cons_zero, List.set_cons_succ]
  refine wpAnyH_take (i := 11) (oi := ⟨some 41, _, _, _, _, _⟩) (v := ?v611) rfl (by kernel_rfl) (by kernel_rfl) (by kernel_rfl) (fun _ _ _ h => h) (Or.inl ⟨rfl, ?c611⟩) hH ?r611
  case c611 => (intro w' hS; refine take_cfg hS.1 (.tmp 3) ?_ ?_ <;> rfl)
  try simp only [Act.put, List.setIfInBounds_toArray, List.set_cons_zero, List.set_cons_succ]
  refine wpAnyH_take (i := 12) (oi := ⟨some 42, _, _, _, _, _⟩) (v := ?v612) rfl (by kernel_rfl) (by kernel_rfl) (by kernel_rfl) (fun _ _ _ h => h) (Or.inl ⟨rfl, ?c612⟩) hH ?r612
  case c612 => (intro w' _; go_simp; (try with_reducible rfl))
  try simp only [Act.put, List.setIfInBounds_toArray, List.set_cons_zero, List.set_cons_succ]
  refine wpAnyH_take (i := 15) (oi := ⟨some 45, _, _, _, _, _⟩) (v := ?v613) rfl (by kernel_rfl) (by kernel_rfl) (by kernel_rfl) (fun _ _ _ h => h) (Or.inl ⟨rfl, ?c613⟩) hH ?r613
  case c613 => (intro w' _; go_simp; (try with_reducible rfl))
  try simp only [Act.put, List.setIfInBounds_toArray, List.set_cons_zero, List.set_cons_succ]
  refine wpAnyH_ready (rs := [13]) (by kernel_rfl) (by simp) (AllReadyH.cons rfl (fun K hK => ?_) (AllReadyH.nil))
  go_simp
  go_at_call 5
  refine (HFW.out _ hH.2).mono ?_
  rintro e w5 ⟨rfl, rfl⟩
  refine hK.out _ _ (hH) (fun hH => ?_)
  clear hK K
  try simp only [Act.put, List.setIfInBounds_toArray, List.set_cons_zero, List.set_cons_succ]
  refine wpAnyH_ready (rs := [14]) (by kernel_rfl) (by simp) (AllReadyH.cons rfl (fun K hK => ?_) (AllReadyH.nil))
  go_simp
  go_at_call 8
  refine (HCK.out _ hH.2).mono ?_
  rintro e w6 ⟨rfl, hb⟩
  refine hK.out _ _ (⟨hH.1.next hb, hH.2.trans (hb.mono hH.2.size)⟩) (fun hH => ?_)
  clear hK K
  clear hb
  try simp only [Act.put, List.setIfInBounds_toArray, List.set_cons_zero, List.set_cons_succ]
  refine wpAnyH_take (i := 16) (oi := ⟨some 46, _, _, _, _, _⟩) (v := ?v614) rfl (by kernel_rfl) (by kernel_rfl) (by kernel_rfl) (fun _ _ _ h => h) (Or.inl ⟨rfl, ?c614⟩) hH ?r614
  case c614 => (intro w' _; go_simp; (try with_reducible rfl))
  try simp only [Act.put, List.setIfInBounds_toArray, List.set_cons_zero, List.set_cons_succ]
  refine wpAnyH_take (i := 17) (oi := ⟨some 47, _, _, _, _, _⟩) (v := ?v615) rfl (by kernel_rfl) (by kernel_rfl) (by kernel_rfl) (fun _ _ _ h => h) (Or.inl ⟨rfl, ?c615⟩) hH ?r615
  case c615 => (intro w' _; go_simp; (try with_reducible rfl))
  try simp only [Act.put, List.setIfInBounds_toArray, List.set_cons_zero, List.set_cons_succ]
  refine wpAnyH_take (i := 18) (oi := ⟨some 6, _, _, _, _, _⟩) (v := ?v616) rfl (by kernel_rfl) (by kernel_rfl) (by kernel_rfl) (fun _ _ _ h => h) (Or.inl ⟨rfl, ?c616⟩) hH ?r616
  case c616 => (intro w' _; go_simp; (try with_reducible rfl))
  try simp only [Act.put, List.setIfInBounds_toArray, List.set_cons_zero, List.set_cons_succ]
  refine wpAnyH_done (by kernel_rfl) ?_ _
  have HB := Lib.hid hH.2
  clear hH
  go_wp2_with fail
  go_ret
  exact ⟨rfl, HB.out⟩
set_option maxHeartbeats 8000000 in
theorem autoPlays_yes (z N : Int) (T : Nat → Int) (A : Option Addr) (m c : Nat) (rs : List R) (Aa : Option Addr) (len cap : Nat) (xs : List Dk) (W : World) (he : Env W) (hcfg : (-9223372036854775808 ≤ z ∧ z ≤ 9223372036854775807) ∧ (-9223372036854775808 ≤ N ∧ N ≤ 9223372036854775807) ∧ ∀ i, -9223372036854775808 ≤ T i ∧ T i ≤ 9223372036854775807) (hr : Rds W W.heap.size (.slice A m c) rs ∧ ∀ r ∈ rs, r.Ok) (hx : xs.length = len ∧ Das W W.heap.size (.slice Aa len cap) xs ∧ ∀ x ∈ xs, x.Ok) (h0 : chkE z N (few rs) = 0) :
    Calls Tryz.prog 3 #[.agg (cfc z N T), .slice A m c, .slice Aa len cap] W fun e w' => e = .returned (.bool true) ∧ Below W.heap.size W w' := by
  obtain ⟨hz, -, htm⟩ := hcfg
  obtain ⟨hrd, hro⟩ := hr
  obtain ⟨hl, hd, hxo⟩ := hx
  have hm : rs.length = m := by obtain ⟨A', c', e, _⟩ := hrd; injection e with _ e2 _; exact e2.symm
  have HFW : Hid (∀ W', Below W.heap.size W W' → Calls Tryz.prog 5 #[.slice A m c] W' fun e w' => e = .returned (.slice A (few rs).length c) ∧ W' = w') := fun W' h => few_any A m c rs W' hm (Rds.only hrd (Only.of_below h : Only (fun _ => False) W W') (fun _ _ _ _ _ e => e))
  have HRW : Hid (∀ W', Below W.heap.size W W' → Rds W' W'.heap.size (.slice A (few rs).length c) (few rs)) := fun W' h => few_rds (Rds.only hrd (Only.of_below h : Only (fun _ => False) W W') (fun _ _ _ _ _ e => e))
  have HOK := Lib.hid (few_ok hro)
  have HF7 : Hid ((few rs).length ≤ 100000) := by show _ ≤ _; have := (few_len rs).1; omega
  have HX1 := Lib.hid (Blk.box W (cfc z N T) 24)
  have HB1 := Lib.hid (below_box W (.cells (cfc z N T) 24))
  have HE := Lib.hid he
  have HZ := Lib.hid hz
  have HTM := Lib.hid htm
  have HCK : Hid (∀ W', Below W.heap.size W W' → Calls Tryz.prog 8 #[.agg (cfc z N T), .slice A (few rs).length c] W' fun e w' => e = .returned (.int .i64 (chkE z N (few rs))) ∧ Below W'.heap.size W' w') := fun W' h =>
    check_p z N T hz (he.below h) A (few rs).length c (few rs) rfl (HRW.out W' h) HOK.out
  have HNW : Hid (∀ W', Below W.heap.size W W' → Calls Tryz.prog 4 #[.agg (cfc z N T), .slice A (few rs).length c] W' fun e w' => ∃ O B M, e = .returned (.tuple #[ptr B, .int .i64 0]) ∧ PAt w' O B M N T (newS (few rs)) ∧ Below W'.heap.size W' w' ∧ ∀ j, O j → W'.heap.size ≤ j) := fun W' h =>
    new_ok z N T hz htm (he.below h) A (few rs).length c (few rs) rfl (HRW.out W' h) HOK.out HF7.out h0
  have HNR : Hid (∀ W', Below W.heap.size W W' → Calls Tryz.prog 6 #[.agg (cfc z N T), .slice A (few rs).length c] W' fun e w' => ∃ O B, e = .returned (.tuple #[ptr B, .int .i64 0]) ∧ QAt w' O B z N T (newS (few rs)) ∧ Below W'.heap.size W' w' ∧ ∀ j, O j → W'.heap.size ≤ j) := fun W' h =>
    refNew_ok z N T htm (he.below h) A (few rs).length c (few rs) rfl (HRW.out W' h) HOK.out h0
  rw [h0] at HCK
  clear HRW
  generalize (few rs).length = fl at HFW HNW HNR HCK
  obtain ⟨Ab, cb, ee, hlc, hcc⟩ := hd.len
  injection ee with ea el ec
  subst ea ec
  rw [hl] at hlc
  have HL := Lib.hid hl
  have HD := Lib.hid hd
  have HDR : Hid (∀ x ∈ xs, Rds W W.heap.size x.va x.l) := by obtain ⟨_, _, _, _, _, _, h⟩ := hd; exact h
  have HXO := Lib.hid hxo
  clear he hrd hro hl hd hxo hz htm hm h0 el
  go_enter Tryz.func3, Tryz.ntmps3
  go_wp2_with fail
  refine wp_region_held_drew (S := fun w' => Blk w' W.heap.size (cfc z N T) 24 ∧ Below W.heap.size W w') (by kernel_rfl) (⟨HX1.out.drew, HB1.out.drew⟩) (fun hH => ?_)
  refine wpAnyH_take (i := 0) (oi := ⟨some 15, _, _, _, _, _⟩) (v := ?v1) rfl (by kernel_rfl) (by kernel_rfl) (by kernel_rfl) (fun _ _ _ h => h) (Or.inl ⟨rfl, ?c1⟩) hH ?r1
  case c1 => (intro w' hS; refine take_cfg hS.1 (.tmp 3) ?_ ?_ <;> rfl)
  try simp only [Act.put, List.setIfInBounds_toArray, List.set_cons_zero, List.set_cons_succ]
  refine wpAnyH_take (i := 1) (oi := ⟨some 16, _, _, _, _, _⟩) (v := ?v2) rfl (by kernel_rfl) (by kernel_rfl) (by kernel_rfl) (fun _ _ _ h => h) (Or.inl ⟨rfl, ?c2⟩) hH ?r2
  case c2 => (intro w' _; go_simp; (try with_reducible rfl))
  try simp only [Act.put, List.setIfInBounds_toArray, List.set_cons_zero, List.set_cons_succ]
  refine wpAnyH_ready (rs := [2]) (by kernel_rfl) (by simp) (AllReadyH.cons rfl (fun K hK => ?_) (AllReadyH.nil))
  go_simp
  go_at_call 5
  refine (HFW.out _ hH.2).mono ?_
  rintro e w5 ⟨rfl, rfl⟩
  refine hK.out _ _ (hH) (fun hH => ?_)
  clear hK K
  try simp only [Act.put, List.setIfInBounds_toArray, List.set_cons_zero, List.set_cons_succ]
  refine wpAnyH_ready (rs := [3]) (by kernel_rfl) (by simp) (AllReadyH.cons rfl (fun K hK => ?_) (AllReadyH.nil))
  go_simp
  go_at_call 4
  refine (HNW.out _ hH.2).mono ?_
  rintro e w6 ⟨Oa, Ba, Ma, rfl, hp, hb, hna⟩
  have HPA := Lib.hid hp
  have HNA : Hid (∀ j, Oa j → W.heap.size ≤ j) := fun j h => Nat.le_trans hH.2.size (hna j h)
  refine hK.out _ _ (⟨hH.1.next hb, hH.2.trans (hb.mono hH.2.size)⟩) (fun hH => ?_)
  clear hK K
  clear hb hp hna
  try simp only [Act.put, List.setIfInBounds_toArray, List.set_cons_zero, List.set_cons_succ]
  refine wpAnyH_take (i := 4) (oi := ⟨some 14, _, _, _, _, _⟩) (v := ?v3) rfl (by kernel_rfl) (by kernel_rfl) (by kernel_rfl) (fun _ _ _ h => h) (Or.inl ⟨rfl, ?c3⟩) hH ?r3
  case c3 => (intro w' _; go_simp; (try with_reducible rfl))
  try simp only [Act.put, List.setIfInBounds_toArray, List.set_cons_zero, List.set_cons_succ]
  refine wpAnyH_take (i := 5) (oi := ⟨some 19, _, _, _, _, _⟩) (v := ?v4) rfl (by kernel_rfl) (by kernel_rfl) (by kernel_rfl) (fun _ _ _ h => h) (Or.inl ⟨rfl, ?c4⟩) hH ?r4
  case c4 => (intro w' _; go_simp; (try with_reducible rfl))
  try simp only [Act.put, List.setIfInBounds_toArray, List.set_cons_zero, List.set_cons_succ]
  refine wpAnyH_take (i := 6) (oi := ⟨some 20, _, _, _, _, _⟩) (v := ?v5) rfl (by kernel_rfl) (by kernel_rfl) (by kernel_rfl) (fun _ _ _ h => h) (Or.inl ⟨rfl, ?c5⟩) hH ?r5
  case c5 => (intro w' _; go_simp; (try with_reducible rfl))
  try simp only [Act.put, List.setIfInBounds_toArray, List.set_cons_zero, List.set_cons_succ]
  refine wpAnyH_take (i := 7) (oi := ⟨some 7, _, _, _, _, _⟩) (v := ?v6) rfl (by kernel_rfl) (by kernel_rfl) (by kernel_rfl) (fun _ _ _ h => h) (Or.inl ⟨rfl, ?c6⟩) hH ?r6
  case c6 => (intro w' _; go_simp; (try with_reducible rfl))
  try simp only [Act.put, List.setIfInBounds_toArray, List.set_cons_zero, List.set_cons_succ]
  refine wpAnyH_take (i := 8) (oi := ⟨some 8, _, _, _, _, _⟩) (v := ?v7) rfl (by kernel_rfl) (by kernel_rfl) (by kernel_rfl) (fun _ _ _ h => h) (Or.inl ⟨rfl, ?c7⟩) hH ?r7
  case c7 => (intro w' _; go_simp; (try with_reducible rfl))
  try simp only [Act.put, List.setIfInBounds_toArray, List.set_cons_zero, List.set_cons_succ]
  refine wpAnyH_done (by kernel_rfl) ?_ _
  have HPA2 := Lib.hid (HPA.out.next (Below.refl _ _).drew)
  clear HPA
  go_wp2_with fail
  refine wp_region_held_drew (S := fun w' => Blk w' W.heap.size (cfc z N T) 24 ∧ Below W.heap.size W w') (by kernel_rfl) (⟨hH.1.drew, hH.2.drew⟩) (fun hH => ?_)
  refine wpAnyH_take (i := 0) (oi := ⟨some 22, _, _, _, _, _⟩) (v := ?v301) rfl (by kernel_rfl) (by kernel_rfl) (by kernel_rfl) (fun _ _ _ h => h) (Or.inl ⟨rfl, ?c301⟩) hH ?r301
  case c301 => (intro w' hS; refine take_cfg hS.1 (.tmp 3) ?_ ?_ <;> rfl)
  try simp only [Act.put, List.setIfInBounds_toArray, List.set_cons_zero, List.set_cons_succ]
  refine wpAnyH_take (i := 1) (oi := ⟨some 23, _, _, _, _, _⟩) (v := ?v302) rfl (by kernel_rfl) (by kernel_rfl) (by kernel_rfl) (fun _ _ _ h => h) (Or.inl ⟨rfl, ?c302⟩) hH ?r302
  case c302 => (intro w' _; go_simp; (try with_reducible rfl))
  try simp only [Act.put, List.setIfInBounds_toArray, List.set_cons_zero, List.set_cons_succ]
  refine wpAnyH_ready (rs := [2]) (by kernel_rfl) (by simp) (AllReadyH.cons rfl (fun K hK => ?_) (AllReadyH.nil))
  go_simp
  go_at_call 5
  refine (HFW.out _ hH.2).mono ?_
  rintro e w5 ⟨rfl, rfl⟩
  refine hK.out _ _ (hH) (fun hH => ?_)
  clear hK K
  try simp only [Act.put, List.setIfInBounds_toArray, List.set_cons_zero, List.set_cons_succ]
  refine wpAnyH_ready (rs := [3]) (by kernel_rfl) (by simp) (AllReadyH.cons rfl (fun K hK => ?_) (AllReadyH.nil))
  go_simp
  go_at_call 6
  refine (HNR.out _ hH.2).mono ?_
  rintro e w6 ⟨Ob, Bb, rfl, hq, hb, hnb⟩
  have HPQ3 : Hid (PQ W Oa Ob Ba Ma Bb z N T (newS (few rs)) (newS (few rs)) w6) :=
    ⟨HPA2.out.next hb, hq, HE.out.below (hH.2.trans (hb.mono hH.2.size)), hH.2.trans (hb.mono hH.2.size), HNA.out, fun j h => Nat.le_trans hH.2.size (hnb j h), fun j ha hj => by have := HPA2.out.lt_ j ha; have := hnb j hj; omega⟩
  refine hK.out _ _ (⟨hH.1.next hb, hH.2.trans (hb.mono hH.2.size)⟩) (fun hH => ?_)
  clear hK K
  clear hb hq hnb HPA2
  try simp only [Act.put, List.setIfInBounds_toArray, List.set_cons_zero, List.set_cons_succ]
  refine wpAnyH_take (i := 4) (oi := ⟨some 21, _, _, _, _, _⟩) (v := ?v303) rfl (by kernel_rfl) (by kernel_rfl) (by kernel_rfl) (fun _ _ _ h => h) (Or.inl ⟨rfl, ?c303⟩) hH ?r303
  case c303 => (intro w' _; go_simp; (try with_reducible rfl))
  try simp only [Act.put, List.setIfInBounds_toArray, List.set_cons_zero, List.set_cons_succ]
  refine wpAnyH_take (i := 5) (oi := ⟨some 26, _, _, _, _, _⟩) (v := ?v304) rfl (by kernel_rfl) (by kernel_rfl) (by kernel_rfl) (fun _ _ _ h => h) (Or.inl ⟨rfl, ?c304⟩) hH ?r304
  case c304 => (intro w' _; go_simp; (try with_reducible rfl))
  try simp only [Act.put, List.setIfInBounds_toArray, List.set_cons_zero, List.set_cons_succ]
  refine wpAnyH_take (i := 6) (oi := ⟨some 27, _, _, _, _, _⟩) (v := ?v305) rfl (by kernel_rfl) (by kernel_rfl) (by kernel_rfl) (fun _ _ _ h => h) (Or.inl ⟨rfl, ?c305⟩) hH ?r305
  case c305 => (intro w' _; go_simp; (try with_reducible rfl))
  try simp only [Act.put, List.setIfInBounds_toArray, List.set_cons_zero, List.set_cons_succ]
  refine wpAnyH_take (i := 7) (oi := ⟨some 9, _, _, _, _, _⟩) (v := ?v306) rfl (by kernel_rfl) (by kernel_rfl) (by kernel_rfl) (fun _ _ _ h => h) (Or.inl ⟨rfl, ?c306⟩) hH ?r306
  case c306 => (intro w' _; go_simp; (try with_reducible rfl))
  try simp only [Act.put, List.setIfInBounds_toArray, List.set_cons_zero, List.set_cons_succ]
  refine wpAnyH_take (i := 8) (oi := ⟨some 10, _, _, _, _, _⟩) (v := ?v307) rfl (by kernel_rfl) (by kernel_rfl) (by kernel_rfl) (fun _ _ _ h => h) (Or.inl ⟨rfl, ?c307⟩) hH ?r307
  case c307 => (intro w' _; go_simp; (try with_reducible rfl))
  try simp only [Act.put, List.setIfInBounds_toArray, List.set_cons_zero, List.set_cons_succ]
  refine wpAnyH_done (by kernel_rfl) ?_ _
  have HPQ4 := Lib.hid (HPQ3.out.next (Below.refl _ _).drew)
  clear HPQ3
  go_wp2_with fail
  refine wp_region_held_drew (S := fun w' => Blk w' W.heap.size (cfc z N T) 24 ∧ Below W.heap.size W w') (by kernel_rfl) (⟨hH.1.drew, hH.2.drew⟩) (fun hH => ?_)
  refine wpAnyH_take (i := 0) (oi := ⟨some 48, _, _, _, _, _⟩) (v := ?v601) rfl (by kernel_rfl) (by kernel_rfl) (by kernel_rfl) (fun _ _ _ h => h) (Or.inl ⟨rfl, ?c601⟩) hH ?r601
  case c601 => (intro w' _; go_simp; (try with_reducible rfl))
  try simp only [Act.put, List.setIfInBounds_toArray, List.set_cons_zero, List.set_cons_succ]
  refine wpAnyH_take (i := 1) (oi := ⟨some 49, _, _, _, _, _⟩) (v := ?v602) rfl (by kernel_rfl) (by kernel_rfl) (by kernel_rfl) (fun _ _ _ h => h) (Or.inl ⟨rfl, ?c602⟩) hH ?r602
  case c602 => (intro w' _; go_simp; (try with_reducible rfl))
  try simp only [Act.put, List.setIfInBounds_toArray, List.set_cons_zero, List.set_cons_succ]
  refine wpAnyH_take (i := 2) (oi := ⟨some 50, _, _, _, _, _⟩) (v := ?v603) rfl (by kernel_rfl) (by kernel_rfl) (by kernel_rfl) (fun _ _ _ h => h) (Or.inl ⟨rfl, ?c603⟩) hH ?r603
  case c603 => (intro w' _; go_simp; (try with_reducible rfl))
  try simp only [Act.put, List.setIfInBounds_toArray, List.set_cons_zero, List.set_cons_succ]
  refine wpAnyH_take (i := 3) (oi := ⟨some 51, _, _, _, _, _⟩) (v := ?v604) rfl (by kernel_rfl) (by kernel_rfl) (by kernel_rfl) (fun _ _ _ h => h) (Or.inl ⟨rfl, ?c604⟩) hH ?r604
  case c604 => (intro w' hS; refine take_cfg hS.1 (.tmp 3) ?_ ?_ <;> rfl)
  try simp only [Act.put, List.setIfInBounds_toArray, List.set_cons_zero, List.set_cons_succ]
  refine wpAnyH_take (i := 4) (oi := ⟨some 52, _, _, _, _, _⟩) (v := ?v605) rfl (by kernel_rfl) (by kernel_rfl) (by kernel_rfl) (fun _ _ _ h => h) (Or.inl ⟨rfl, ?c605⟩) hH ?r605
  case c605 => (intro w' _; go_simp; (try with_reducible rfl))
  try simp only [Act.put, List.setIfInBounds_toArray, List.set_cons_zero, List.set_cons_succ]
  refine wpAnyH_ready (rs := [5]) (by kernel_rfl) (by simp) (AllReadyH.cons rfl (fun K hK => ?_) (AllReadyH.nil))
  go_simp
  go_at_call 5
  refine (HFW.out _ hH.2).mono ?_
  rintro e w5 ⟨rfl, rfl⟩
  refine hK.out _ _ (hH) (fun hH => ?_)
  clear hK K
  try simp only [Act.put, List.setIfInBounds_toArray, List.set_cons_zero, List.set_cons_succ]
  refine wpAnyH_ready (rs := [6]) (by kernel_rfl) (by simp) (AllReadyH.cons rfl (fun K hK => ?_) (AllReadyH.nil))
  go_simp
  go_at_call 8
  refine (HCK.out _ hH.2).mono ?_
  rintro e w6 ⟨rfl, hb⟩
  have HPQ5 := Lib.hid (HPQ4.out.next hb)
  refine hK.out _ _ (⟨hH.1.next hb, hH.2.trans (hb.mono hH.2.size)⟩) (fun hH => ?_)
  clear hK K
  clear hb HPQ4
  try simp only [Act.put, List.setIfInBounds_toArray, List.set_cons_zero, List.set_cons_succ]
  refine wpAnyH_take (i := 7) (oi := ⟨some 55, _, _, _, _, _⟩) (v := ?v606) rfl (by kernel_rfl) (by kernel_rfl) (by kernel_rfl) (fun _ _ _ h => h) (Or.inl ⟨rfl, ?c606⟩) hH ?r606
  case c606 => (intro w' _; go_simp; (try with_reducible rfl))
  try simp only [Act.put, List.setIfInBounds_toArray, List.set_cons_zero, List.set_cons_succ]
  refine wpAnyH_take (i := 8) (oi := ⟨some 56, _, _, _, _, _⟩) (v := ?v607) rfl (by kernel_rfl) (by kernel_rfl) (by kernel_rfl) (fun _ _ _ h => h) (Or.inl ⟨rfl, ?c607⟩) hH ?r607
  case c607 => (intro w' _; go_simp; (try with_reducible rfl))
  try simp only [Act.put, List.setIfInBounds_toArray, List.set_cons_zero, List.set_cons_succ]
  refine wpAnyH_done (by kernel_rfl) ?_ _
  clear hH
  go_wp2_with fail
  go_loopw [11] (fun vi wr => ∃ (i : Nat) (Oa Ob : Nat → Prop), vi = .int .i64 (i : Int) ∧ i ≤ len ∧ i ≤ 60 ∧ Hid (PQ W Oa Ob Ba Ma Bb z N T (runD N T (newS (few rs)) (xs.take i)) (runD N T (newS (few rs)) (xs.take i)) wr)) (fun vi _ => 60 - (RowKit.intOf vi).toNat)
  case atStart => exact ⟨0, Oa, Ob, rfl, by omega, by omega, HPQ5⟩
  case round =>
    clear HPQ5 HNA Oa Ob
    obtain ⟨i, Oa, Ob, rfl, hi1, hi2, HA⟩ := hrel
    by_cases h1 : i < len
    · by_cases h2 : i < 60
      · as_aux_lemma =>
          obtain ⟨x, hx⟩ : ∃ x, xs[i]? = some x := ⟨_, List.getElem?_eq_getElem (by rw [HL.out]; exact h1)⟩
          obtain ⟨b, off, c4, ev, -, -, hrg, hrd⟩ := (HD.out.below HA.out.bel).at_ HL.out hx
          injection ev with ev _ ec
          subst ev ec
          have hrd0 := (HDR.out x (List.mem_of_getElem? hx))
          have hxo := HXO.out x (List.mem_of_getElem? hx)
          have HSN : Hid (runD N T (newS (few rs)) (xs.take (i + 1)) = stepD N T (runD N T (newS (few rs)) (xs.take i)) x) := by
            show _ = _
            have hlt : i < xs.length := (List.getElem?_eq_some_iff.1 hx).1
            rw [List.take_succ_eq_append_getElem hlt, runD_snoc, (List.getElem?_eq_some_iff.1 hx).2]
          clear hx hrd
          obtain ⟨Av, cv, eva, -, -⟩ := hrd0.len
          obtain ⟨xk, xn, xp, xe, xl, xv⟩ := x
          simp only at eva hrd0
          subst eva
          have HRG := Lib.hid hrg
          have HDO := Lib.hid (does_any HA.out hxo hrd0)
          generalize runD N T (newS (few rs)) (xs.take i) = s at HDO HSN
          clear hrg hrd0 hxo HA
          go_wp2_with (refine wpList_load_mid rfl 47 (.tmp 71) rfl b (off + i * 15) rfl [.int .u8 (xk : Int), .int .i64 xn, .int .u8 (xp.pr : Int), .int .u32 (xp.sr : Int), .int .u32 (xp.ds : Int), .int .u16 (xp.sp : Int), .int .u16 (xp.dp : Int), .int .u8 (xp.fl : Int), .int .u8 (xp.kd : Int), .int .u32 (xe.a : Int), .int .u32 (xe.b : Int), .int .u16 (xe.p : Int), .int .u16 (xe.q : Int), .int .u8 (xe.r : Int), .slice Av xl.length cv] _ HRG.out Tryz.underlying47 rfl do_size' ?_)
          go_at_call 9
          refine HDO.out.mono ?_
          rintro e w7 ⟨Oa2, Ob2, rfl, hpq⟩
          rw [← HSN.out] at hpq
          have HA2 := Lib.hid hpq
          clear hpq HDO HSN HRG
          go_wp2_with fail
          go_at_call 10
          refine (alike_any HA2.out).mono ?_
          rintro e w8 ⟨rfl, hb⟩
          have HA3 := Lib.hid (HA2.out.next hb)
          clear hb HA2
          go_wp2_with fail
          go_roundw
          case rel => exact ⟨i + 1, Oa2, Ob2, by go_num, by omega, by omega, HA3⟩
          case measure => simp [RowKit.intOf]; omega
      · obtain rfl : i = 60 := by omega
        have HAE := HA
        clear HA
        have HLK : Hid (lookV (runD N T (newS (few rs)) (xs.take 60)) ⟨0, 0, 0, 0, 99⟩ = .tuple #[.agg (Fl.gtc 0 0 0), .bool false]) := lk_none (NoX.none (NoX.run (fun f h => by cases h)))
        have HS0 : Hid (statV (runD N T (newS (few rs)) (xs.take 60)) 0 = 0) := by show _ = _; unfold statV; rw [if_neg (by omega)]
        have HS6 : Hid (statV (runD N T (newS (few rs)) (xs.take 60)) 6 = 0) := by show _ = _; unfold statV; rw [if_neg (by omega)]
        generalize runD N T (newS (few rs)) (xs.take 60) = s at *
        have HPQ := HAE
        clear HAE
        go_wp2_with fail
        go_at_call 11
        refine (look_p HPQ.out.a HPQ.out.env ⟨0, 0, 0, 0, 99⟩).mono ?_
        rw [HLK.out]
        rintro e w7 ⟨rfl, hb⟩
        have HPQ8 := Lib.hid ((HPQ.out.next hb).next (below_box w7 (.cells (Fl.gtc 0 0 0) 50)))
        clear hb HPQ
        go_wp2_with fail
        obtain ⟨w8, hw8⟩ : ∃ v, w7.alloc (.cells (Fl.gtc 0 0 0) 50) = v := ⟨_, rfl⟩
        rw [hw8] at HPQ8
        rw [hw8]
        clear hw8
        go_at_call 7
        refine (awake_any _ HPQ8.out.env).mono ?_
        rintro e w9 ⟨rfl, hb⟩
        have HPQ9 := Lib.hid (HPQ8.out.next hb)
        clear hb HPQ8
        go_wp2_with fail
        go_at_call 12
        refine (stat_p HPQ9.out.a 0).mono ?_
        rw [HS0.out]
        rintro e w10 ⟨rfl, hb⟩
        have HPQ10 := Lib.hid (HPQ9.out.next hb)
        clear hb HPQ9
        go_wp2_with fail
        go_at_call 12
        refine (stat_p HPQ10.out.a 6).mono ?_
        rw [HS6.out]
        rintro e w11 ⟨rfl, hb⟩
        have HPQ11 := Lib.hid (HPQ10.out.next hb)
        clear hb HPQ10
        go_wp2_with fail
        go_ret
        exact ⟨rfl, HPQ11.out.bel⟩
    · have HAE : Hid (PQ W Oa Ob Ba Ma Bb z N T (runD N T (newS (few rs)) (xs.take 60)) (runD N T (newS (few rs)) (xs.take 60)) wr) := by
        have e : xs.take 60 = xs.take i := by rw [List.take_of_length_le (by rw [HL.out]; omega), List.take_of_length_le (by rw [HL.out]; omega)]
        rw [e]; exact HA
      clear HA
      have HLK : Hid (lookV (runD N T (newS (few rs)) (xs.take 60)) ⟨0, 0, 0, 0, 99⟩ = .tuple #[.agg (Fl.gtc 0 0 0), .bool false]) := lk_none (NoX.none (NoX.run (fun f h => by cases h)))
      have HS0 : Hid (statV (runD N T (newS (few rs)) (xs.take 60)) 0 = 0) := by show _ = _; unfold statV; rw [if_neg (by omega)]
      have HS6 : Hid (statV (runD N T (newS (few rs)) (xs.take 60)) 6 = 0) := by show _ = _; unfold statV; rw [if_neg (by omega)]
      generalize runD N T (newS (few rs)) (xs.take 60) = s at *
      have HPQ := HAE
      clear HAE
      go_wp2_with fail
      go_at_call 11
      refine (look_p HPQ.out.a HPQ.out.env ⟨0, 0, 0, 0, 99⟩).mono ?_
      rw [HLK.out]
      rintro e w7 ⟨rfl, hb⟩
      have HPQ8 := Lib.hid ((HPQ.out.next hb).next (below_box w7 (.cells (Fl.gtc 0 0 0) 50)))
      clear hb HPQ
      go_wp2_with fail
      obtain ⟨w8, hw8⟩ : ∃ v, w7.alloc (.cells (Fl.gtc 0 0 0) 50) = v := ⟨_, rfl⟩
      rw [hw8] at HPQ8
      rw [hw8]
      clear hw8
      go_at_call 7
      refine (awake_any _ HPQ8.out.env).mono ?_
      rintro e w9 ⟨rfl, hb⟩
      have HPQ9 := Lib.hid (HPQ8.out.next hb)
      clear hb HPQ8
      go_wp2_with fail
      go_at_call 12
      refine (stat_p HPQ9.out.a 0).mono ?_
      rw [HS0.out]
      rintro e w10 ⟨rfl, hb⟩
      have HPQ10 := Lib.hid (HPQ9.out.next hb)
      clear hb HPQ9
      go_wp2_with fail
      go_at_call 12
      refine (stat_p HPQ10.out.a 6).mono ?_
      rw [HS6.out]
      rintro e w11 ⟨rfl, hb⟩
      have HPQ11 := Lib.hid (HPQ10.out.next hb)
      clear hb HPQ10
      go_wp2_with fail
      go_ret
      exact ⟨rfl, HPQ11.out.bel⟩
theorem autoPlays_walk (z N : Int) (T : Nat → Int) (A : Option Addr) (m c : Nat) (rs : List R) (Aa : Option Addr) (len cap : Nat) (xs : List Dk) (W : World) (he : Env W) (hcfg : (-9223372036854775808 ≤ z ∧ z ≤ 9223372036854775807) ∧ (-9223372036854775808 ≤ N ∧ N ≤ 9223372036854775807) ∧ ∀ i, -9223372036854775808 ≤ T i ∧ T i ≤ 9223372036854775807) (hr : Rds W W.heap.size (.slice A m c) rs ∧ ∀ r ∈ rs, r.Ok) (hx : xs.length = len ∧ Das W W.heap.size (.slice Aa len cap) xs ∧ ∀ x ∈ xs, x.Ok) :
    Calls Tryz.prog 3 #[.agg (cfc z N T), .slice A m c, .slice Aa len cap] W fun e w' => e = .returned (.bool true) ∧ Below W.heap.size W w' := by
  by_cases h0 : chkE z N (few rs) = 0
  · exact autoPlays_yes z N T A m c rs Aa len cap xs W he hcfg hr hx h0
  · exact autoPlays_no z N T A m c rs Aa len cap xs W he hcfg hr hx h0
end Au
end Go.Proofs.YtgcnhbjoalemlaaGreatDoor
