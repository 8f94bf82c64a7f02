/- Layer 10: awake. -/
import Derived.Test.YtabmdkjkdgipbaaKeyL
import Derived.Test.YtabmdkjkdgipbaaKeyC
set_option linter.unusedVariables false
set_option linter.unusedSimpArgs false
namespace Go.Proofs.Ytabmdkjkdgipbaa
open Go.ChangeShapes Go.WideShapes Go.ChangeAt Go.RowKit Go.Mtl
namespace Ky
open KeyM (lowB lessB hashN isPow)

/-- Two keys in their blocks. -/
def AQ (W : World) (g k : Nat) (ka kb : Array Value) (w : World) : Prop := Blk w g ka 29 ∧ Blk w k kb 29 ∧ Below W.heap.size W w
theorem AQ.next {W w w' : World} {g k : Nat} {ka kb : Array Value} (H : AQ W g k ka kb w) (hb : Below w.heap.size w w') : AQ W g k ka kb w' := ⟨H.1.next hb, H.2.1.next hb, H.2.2.trans (hb.mono H.2.2.size)⟩
theorem AQ.drew {W w : World} {g k : Nat} {ka kb : Array Value} (H : AQ W g k ka kb w) : AQ W g k ka kb w.drew := ⟨H.1.drew, H.2.1.drew, H.2.2.drew⟩
theorem ky_same (a b p q r : Int) (w : World) : (Op.equalIn 10000 29 (.agg #[.int .u32 a, .int .u32 b, .int .u16 p, .int .u16 q, .int .u8 r]) (.agg #[.int .u32 a, .int .u32 b, .int .u16 p, .int .u16 q, .int .u8 r])).run Try.prog w = .ok true w := (ky_eq a b p q r a b p q r w).trans (by simp)
theorem two_hash : hashN 0 0 0 0 0 ≠ hashN 5 9 2 1 6 := by decide +kernel

set_option maxHeartbeats 4000000 in
theorem awake_any (W : World) : Calls Try.prog 10 #[] W fun e w' => e = .returned (.bool true) ∧ Below W.heap.size W w' := by
  have C4 : Hid (∀ W, Calls Try.prog 8 #[.agg (pkc 6 9 5 1 2 0 0)] W fun e w' => e = .returned (.tuple #[.agg (kyc 5 9 2 1 6), .bool true]) ∧ Below W.heap.size W w') :=
    Lib.hid (of_any 6 9 5 1 2 0 0 (by omega) (by omega) 5 9 2 1 true (by decide) (Or.inl ⟨rfl, rfl, rfl, rfl, rfl⟩))
  have C5 : Hid (∀ W, Calls Try.prog 17 #[.agg (pkc 6 9 5 1 2 0 0)] W fun e w' => e = .returned (.agg (pkc 6 5 9 2 1 0 0)) ∧ Below W.heap.size W w') :=
    Lib.hid (turn_any 6 9 5 1 2 0 0 0 rfl)
  have C6 : Hid (∀ W, Calls Try.prog 8 #[.agg (pkc 6 5 9 2 1 0 0)] W fun e w' => e = .returned (.tuple #[.agg (kyc 5 9 2 1 6), .bool false]) ∧ Below W.heap.size W w') :=
    Lib.hid (of_any 6 5 9 2 1 0 0 (by omega) (by omega) 5 9 2 1 false (by decide) (Or.inr ⟨rfl, rfl, rfl, rfl, rfl⟩))
  obtain ⟨x, hx⟩ : ∃ x, hashN 0 0 0 0 0 = x := ⟨_, rfl⟩
  obtain ⟨y, hy⟩ : ∃ y, hashN 5 9 2 1 6 = y := ⟨_, rfl⟩
  have hxy : x ≠ y := by rw [← hx, ← hy]; exact two_hash
  have C0 : Hid (∀ W, Calls Try.prog 11 #[.agg (kyc 0 0 0 0 0)] W fun e w' => e = .returned (.int .u32 (x : Int)) ∧ Below W.heap.size W w') :=
    Lib.hid (hash_any 0 0 0 0 0 (by omega) (by omega) (by omega) (by omega) (by omega) x hx)
  have C1 : Hid (∀ W, Calls Try.prog 11 #[.agg (kyc 5 9 2 1 6)] W fun e w' => e = .returned (.int .u32 (y : Int)) ∧ Below W.heap.size W w') :=
    Lib.hid (hash_any 5 9 2 1 6 (by omega) (by omega) (by omega) (by omega) (by omega) y hy)
  have C2 : Hid (∀ W, Calls Try.prog 13 #[.agg (kyc 5 9 2 1 6), .int .i64 1] W fun e w' => e = .returned (.int .i64 0) ∧ Below W.heap.size W w') :=
    Lib.hid (fun W => (stripe_yes 5 9 2 1 6 1 (by decide) (by omega) (by omega) (by omega) (by omega) (by omega) y hy W).mono fun _ _ ⟨h, hb⟩ => ⟨h.trans (ret_int (Int.emod_one _)), hb⟩)
  have C3 : Hid (∀ W, Calls Try.prog 15 #[.agg (kyc 0 0 0 0 0), .agg (kyc 5 9 2 1 6)] W fun e w' => e = .returned (.bool true) ∧ Below W.heap.size W w') :=
    Lib.hid (less_any 0 0 0 0 0 5 9 2 1 6 (by omega) (by omega) (by omega) (by omega) true (by decide))
  have d0 : ((x : Int) != (y : Int)) = true := by simp; omega
  clear hx hy hxy
  have HP := Lib.hid (Blk.box W (pkc 6 9 5 1 2 0 0) 25)
  have HB := Lib.hid ((Below.refl _ W).alloc (Nat.le_refl _) (.cells (pkc 6 9 5 1 2 0 0) 25))
  obtain ⟨x0, x1, x2, x3, x4, x5, x6⟩ := pk_cells HP.out
  go_enter Try.func10, Try.ntmps10
  go_wp2_with fail
  refine (C4.out _).mono ?_
  rintro e w1 ⟨rfl, hb1⟩
  have HP1 := Lib.hid ((HP.out.next hb1).alloc (.cells (kyc 5 9 2 1 6) 29))
  have hbb := HB.out.trans (hb1.mono HB.out.size)
  have HB1 := Lib.hid (hbb.alloc hbb.size (.cells (kyc 5 9 2 1 6) 29))
  have HK1 := Lib.hid (Blk.box w1 (kyc 5 9 2 1 6) 29)
  clear HP HB hb1 hbb x0 x1 x2 x3 x4 x5 x6
  obtain ⟨x0, x1, x2, x3, x4, x5, x6⟩ := pk_cells HP1.out
  go_wp2_with fail
  refine (C5.out _).mono ?_
  rintro e w2 ⟨rfl, hb2⟩
  have HB2 := Lib.hid (HB1.out.trans (hb2.mono HB1.out.size))
  have HK2 := Lib.hid (HK1.out.next hb2)
  clear HP1 HB1 HK1 hb2 x0 x1 x2 x3 x4 x5 x6
  go_wp2_with fail
  refine (C6.out _).mono ?_
  rintro e w3 ⟨rfl, hb3⟩
  have hbb := HB2.out.trans (hb3.mono HB2.out.size)
  have HB3 := Lib.hid (hbb.alloc hbb.size (.cells (kyc 5 9 2 1 6) 29))
  have HK3 := Lib.hid ((HK2.out.next hb3).alloc (.cells (kyc 5 9 2 1 6) 29))
  have HL3 := Lib.hid (Blk.box w3 (kyc 5 9 2 1 6) 29)
  clear HB2 HK2 hb3 hbb
  have EQ := ky_same 5 9 2 1 6
  go_wp2_with fail
  obtain ⟨w4, hw4⟩ : ∃ w4, w4 = (w3.alloc (.cells (kyc 5 9 2 1 6) 29)) := ⟨_, rfl⟩
  obtain ⟨g2, hg2⟩ : ∃ g, g = w1.heap.size := ⟨_, rfl⟩
  obtain ⟨g4, hg4⟩ : ∃ g, g = w3.heap.size := ⟨_, rfl⟩
  have HQ : Hid (AQ W g2 g4 (kyc 5 9 2 1 6) (kyc 5 9 2 1 6) w4) := by rw [hw4, hg2, hg4]; exact ⟨HK3.out, HL3.out, HB3.out⟩

  rw [← hw4, ← hg2, ← hg4]
  clear hw4 hg2 hg4 HB3 HK3 HL3
  refine wp_region_held_drew (S := fun w' => AQ W g2 g4 (kyc 5 9 2 1 6) (kyc 5 9 2 1 6) w') (by kernel_rfl) (HQ.out.drew) (fun hH => ?_)
  refine wpAnyH_take (i := 0) (oi := ⟨some 18, _, _, _, _, _⟩) (v := ?v1) rfl (by kernel_rfl) (by kernel_rfl) (by kernel_rfl) (fun _ _ _ h => h) (Or.inl ⟨rfl, ?c1⟩) hH ?r1
  case c1 => (intro w' hS; obtain ⟨x0, x1, x2, x3, x4⟩ := ky_cells hS.1; go_simp; (try with_reducible rfl))
  try simp only [Act.put, List.setIfInBounds_toArray, List.set_cons_zero, List.set_cons_succ]
  refine wpAnyH_take (i := 1) (oi := ⟨some 19, _, _, _, _, _⟩) (v := ?v2) rfl (by kernel_rfl) (by kernel_rfl) (by kernel_rfl) (fun _ _ _ h => h) (Or.inl ⟨rfl, ?c2⟩) hH ?r2
  case c2 => (intro w' _; go_simp; (try with_reducible rfl))
  try simp only [Act.put, List.setIfInBounds_toArray, List.set_cons_zero, List.set_cons_succ]
  refine wpAnyH_take (i := 2) (oi := ⟨some 20, _, _, _, _, _⟩) (v := ?v3) rfl (by kernel_rfl) (by kernel_rfl) (by kernel_rfl) (fun _ _ _ h => h) (Or.inl ⟨rfl, ?c3⟩) hH ?r3
  case c3 => (intro w' _; go_simp; (try with_reducible rfl))
  try simp only [Act.put, List.setIfInBounds_toArray, List.set_cons_zero, List.set_cons_succ]
  refine wpAnyH_take (i := 3) (oi := ⟨some 21, _, _, _, _, _⟩) (v := ?v4) rfl (by kernel_rfl) (by kernel_rfl) (by kernel_rfl) (fun _ _ _ h => h) (Or.inl ⟨rfl, ?c4⟩) hH ?r4
  case c4 => (intro w' _; go_simp; (try with_reducible rfl))
  try simp only [Act.put, List.setIfInBounds_toArray, List.set_cons_zero, List.set_cons_succ]
  refine wpAnyH_take (i := 4) (oi := ⟨some 22, _, _, _, _, _⟩) (v := ?v5) rfl (by kernel_rfl) (by kernel_rfl) (by kernel_rfl) (fun _ _ _ h => h) (Or.inl ⟨rfl, ?c5⟩) hH ?r5
  case c5 => (intro w' _; go_simp; (try with_reducible rfl))
  try simp only [Act.put, List.setIfInBounds_toArray, List.set_cons_zero, List.set_cons_succ]
  refine wpAnyH_take (i := 5) (oi := ⟨some 23, _, _, _, _, _⟩) (v := ?v6) rfl (by kernel_rfl) (by kernel_rfl) (by kernel_rfl) (fun _ _ _ h => h) (Or.inl ⟨rfl, ?c6⟩) hH ?r6
  case c6 => (intro w' _; go_simp; (try with_reducible rfl))
  try simp only [Act.put, List.setIfInBounds_toArray, List.set_cons_zero, List.set_cons_succ]
  refine wpAnyH_take (i := 6) (oi := ⟨some 24, _, _, _, _, _⟩) (v := ?v7) rfl (by kernel_rfl) (by kernel_rfl) (by kernel_rfl) (fun _ _ _ h => h) (Or.inl ⟨rfl, ?c7⟩) hH ?r7
  case c7 => (intro w' _; go_simp; (try with_reducible rfl))
  try simp only [Act.put, List.setIfInBounds_toArray, List.set_cons_zero, List.set_cons_succ]
  refine wpAnyH_take (i := 7) (oi := ⟨some 25, _, _, _, _, _⟩) (v := ?v8) rfl (by kernel_rfl) (by kernel_rfl) (by kernel_rfl) (fun _ _ _ h => h) (Or.inl ⟨rfl, ?c8⟩) hH ?r8
  case c8 => (intro w' _; go_simp; (try with_reducible rfl))
  try simp only [Act.put, List.setIfInBounds_toArray, List.set_cons_zero, List.set_cons_succ]
  refine wpAnyH_take (i := 8) (oi := ⟨some 26, _, _, _, _, _⟩) (v := ?v9) rfl (by kernel_rfl) (by kernel_rfl) (by kernel_rfl) (fun _ _ _ h => h) (Or.inl ⟨rfl, ?c9⟩) hH ?r9
  case c9 => (intro w' _; go_simp; (try with_reducible rfl))
  try simp only [Act.put, List.setIfInBounds_toArray, List.set_cons_zero, List.set_cons_succ]
  refine wpAnyH_take (i := 9) (oi := ⟨some 27, _, _, _, _, _⟩) (v := ?v10) rfl (by kernel_rfl) (by kernel_rfl) (by kernel_rfl) (fun _ _ _ h => h) (Or.inl ⟨rfl, ?c10⟩) hH ?r10
  case c10 => (intro w' hS; obtain ⟨x0, x1, x2, x3, x4⟩ := ky_cells hS.2.1; go_simp; (try with_reducible rfl))
  try simp only [Act.put, List.setIfInBounds_toArray, List.set_cons_zero, List.set_cons_succ]
  refine wpAnyH_take (i := 10) (oi := ⟨some 28, _, _, _, _, _⟩) (v := ?v11) rfl (by kernel_rfl) (by kernel_rfl) (by kernel_rfl) (fun _ _ _ h => h) (Or.inl ⟨rfl, ?c11⟩) hH ?r11
  case c11 => (intro w' hS; obtain ⟨x0, x1, x2, x3, x4⟩ := ky_cells hS.1; go_simp; (try with_reducible rfl))
  try simp only [Act.put, List.setIfInBounds_toArray, List.set_cons_zero, List.set_cons_succ]
  refine wpAnyH_take (i := 11) (oi := ⟨some 29, _, _, _, _, _⟩) (v := ?v12) rfl (by kernel_rfl) (by kernel_rfl) (by kernel_rfl) (fun _ _ _ h => h) (Or.inl ⟨rfl, ?c12⟩) hH ?r12
  case c12 => (intro w' _; go_simp; (try with_reducible rfl))
  try simp only [Act.put, List.setIfInBounds_toArray, List.set_cons_zero, List.set_cons_succ]
  refine wpAnyH_take (i := 12) (oi := ⟨some 30, _, _, _, _, _⟩) (v := ?v13) rfl (by kernel_rfl) (by kernel_rfl) (by kernel_rfl) (fun _ _ _ h => h) (Or.inl ⟨rfl, ?c13⟩) hH ?r13
  case c13 => (intro w' _; go_simp; (try with_reducible rfl))
  try simp only [Act.put, List.setIfInBounds_toArray, List.set_cons_zero, List.set_cons_succ]
  refine wpAnyH_take (i := 13) (oi := ⟨some 31, _, _, _, _, _⟩) (v := ?v14) rfl (by kernel_rfl) (by kernel_rfl) (by kernel_rfl) (fun _ _ _ h => h) (Or.inl ⟨rfl, ?c14⟩) hH ?r14
  case c14 => (intro w' _; go_simp; (try with_reducible rfl))
  try simp only [Act.put, List.setIfInBounds_toArray, List.set_cons_zero, List.set_cons_succ]
  refine wpAnyH_take (i := 14) (oi := ⟨some 32, _, _, _, _, _⟩) (v := ?v15) rfl (by kernel_rfl) (by kernel_rfl) (by kernel_rfl) (fun _ _ _ h => h) (Or.inl ⟨rfl, ?c15⟩) hH ?r15
  case c15 => (intro w' _; go_simp; (try with_reducible rfl))
  try simp only [Act.put, List.setIfInBounds_toArray, List.set_cons_zero, List.set_cons_succ]
  refine wpAnyH_take (i := 15) (oi := ⟨some 33, _, _, _, _, _⟩) (v := ?v16) rfl (by kernel_rfl) (by kernel_rfl) (by kernel_rfl) (fun _ _ _ h => h) (Or.inl ⟨rfl, ?c16⟩) hH ?r16
  case c16 => (intro w' _; go_simp; (try with_reducible rfl))
  try simp only [Act.put, List.setIfInBounds_toArray, List.set_cons_zero, List.set_cons_succ]
  refine wpAnyH_take (i := 16) (oi := ⟨some 34, _, _, _, _, _⟩) (v := ?v17) rfl (by kernel_rfl) (by kernel_rfl) (by kernel_rfl) (fun _ _ _ h => h) (Or.inl ⟨rfl, ?c17⟩) hH ?r17
  case c17 => (intro w' _; go_simp; (try with_reducible rfl))
  try simp only [Act.put, List.setIfInBounds_toArray, List.set_cons_zero, List.set_cons_succ]
  refine wpAnyH_take (i := 17) (oi := ⟨some 35, _, _, _, _, _⟩) (v := ?v18) rfl (by kernel_rfl) (by kernel_rfl) (by kernel_rfl) (fun _ _ _ h => h) (Or.inl ⟨rfl, ?c18⟩) hH ?r18
  case c18 => (intro w' _; go_simp; (try with_reducible rfl))
  try simp only [Act.put, List.setIfInBounds_toArray, List.set_cons_zero, List.set_cons_succ]
  refine wpAnyH_take (i := 18) (oi := ⟨some 36, _, _, _, _, _⟩) (v := ?v19) rfl (by kernel_rfl) (by kernel_rfl) (by kernel_rfl) (fun _ _ _ h => h) (Or.inl ⟨rfl, ?c19⟩) hH ?r19
  case c19 => (intro w' _; go_simp; (try with_reducible rfl))
  try simp only [Act.put, List.setIfInBounds_toArray, List.set_cons_zero, List.set_cons_succ]
  refine wpAnyH_take (i := 20) (oi := ⟨some 38, _, _, _, _, _⟩) (v := ?v20) rfl (by kernel_rfl) (by kernel_rfl) (by kernel_rfl) (fun _ _ _ h => h) (Or.inl ⟨rfl, ?c20⟩) hH ?r20
  case c20 => (intro w' hS; obtain ⟨x0, x1, x2, x3, x4⟩ := ky_cells hS.1; go_simp; (try with_reducible rfl))
  try simp only [Act.put, List.setIfInBounds_toArray, List.set_cons_zero, List.set_cons_succ]
  refine wpAnyH_ready (rs := [19]) (by kernel_rfl) (by simp) (AllReadyH.cons rfl (fun K hK => ?_) (AllReadyH.nil))
  go_simp
  refine (C0.out _).mono ?_
  rintro e w8 ⟨rfl, hbp⟩
  refine hK.out _ _ (AQ.next hH hbp) (fun hH => ?_)
  clear hK K
  clear hbp
  try simp only [Act.put, List.setIfInBounds_toArray, List.set_cons_zero, List.set_cons_succ]
  refine wpAnyH_ready (rs := [21]) (by kernel_rfl) (by simp) (AllReadyH.cons rfl (fun K hK => ?_) (AllReadyH.nil))
  go_simp
  refine (C1.out _).mono ?_
  rintro e w8 ⟨rfl, hbp⟩
  refine hK.out _ _ (AQ.next hH hbp) (fun hH => ?_)
  clear hK K
  clear hbp
  try simp only [Act.put, List.setIfInBounds_toArray, List.set_cons_zero, List.set_cons_succ]
  refine wpAnyH_take (i := 22) (oi := ⟨some 40, _, _, _, _, _⟩) (v := ?v21) rfl (by kernel_rfl) (by kernel_rfl) (by kernel_rfl) (fun _ _ _ h => h) (Or.inl ⟨rfl, ?c21⟩) hH ?r21
  case c21 => (intro w' _; go_simp; (try with_reducible rfl))
  try simp only [Act.put, List.setIfInBounds_toArray, List.set_cons_zero, List.set_cons_succ]
  refine wpAnyH_take (i := 23) (oi := ⟨some 41, _, _, _, _, _⟩) (v := ?v22) rfl (by kernel_rfl) (by kernel_rfl) (by kernel_rfl) (fun _ _ _ h => h) (Or.inl ⟨rfl, ?c22⟩) hH ?r22
  case c22 => (intro w' _; go_simp; (try with_reducible rfl))
  try simp only [Act.put, List.setIfInBounds_toArray, List.set_cons_zero, List.set_cons_succ]
  refine wpAnyH_take (i := 24) (oi := ⟨some 42, _, _, _, _, _⟩) (v := ?v23) rfl (by kernel_rfl) (by kernel_rfl) (by kernel_rfl) (fun _ _ _ h => h) (Or.inl ⟨rfl, ?c23⟩) hH ?r23
  case c23 => (intro w' _; go_simp; (try with_reducible rfl))
  try simp only [Act.put, List.setIfInBounds_toArray, List.set_cons_zero, List.set_cons_succ]
  refine wpAnyH_take (i := 25) (oi := ⟨some 43, _, _, _, _, _⟩) (v := ?v24) rfl (by kernel_rfl) (by kernel_rfl) (by kernel_rfl) (fun _ _ _ h => h) (Or.inl ⟨rfl, ?c24⟩) hH ?r24
  case c24 => (intro w' hS; obtain ⟨x0, x1, x2, x3, x4⟩ := ky_cells hS.1; go_simp; (try with_reducible rfl))
  try simp only [Act.put, List.setIfInBounds_toArray, List.set_cons_zero, List.set_cons_succ]
  refine wpAnyH_ready (rs := [26]) (by kernel_rfl) (by simp) (AllReadyH.cons rfl (fun K hK => ?_) (AllReadyH.nil))
  go_simp
  refine (C2.out _).mono ?_
  rintro e w8 ⟨rfl, hbp⟩
  refine hK.out _ _ (AQ.next hH hbp) (fun hH => ?_)
  clear hK K
  clear hbp
  try simp only [Act.put, List.setIfInBounds_toArray, List.set_cons_zero, List.set_cons_succ]
  refine wpAnyH_take (i := 27) (oi := ⟨some 45, _, _, _, _, _⟩) (v := ?v25) rfl (by kernel_rfl) (by kernel_rfl) (by kernel_rfl) (fun _ _ _ h => h) (Or.inl ⟨rfl, ?c25⟩) hH ?r25
  case c25 => (intro w' _; go_simp; (try with_reducible rfl))
  try simp only [Act.put, List.setIfInBounds_toArray, List.set_cons_zero, List.set_cons_succ]
  refine wpAnyH_take (i := 28) (oi := ⟨some 46, _, _, _, _, _⟩) (v := ?v26) rfl (by kernel_rfl) (by kernel_rfl) (by kernel_rfl) (fun _ _ _ h => h) (Or.inl ⟨rfl, ?c26⟩) hH ?r26
  case c26 => (intro w' _; go_simp; (try with_reducible rfl))
  try simp only [Act.put, List.setIfInBounds_toArray, List.set_cons_zero, List.set_cons_succ]
  refine wpAnyH_take (i := 29) (oi := ⟨some 47, _, _, _, _, _⟩) (v := ?v27) rfl (by kernel_rfl) (by kernel_rfl) (by kernel_rfl) (fun _ _ _ h => h) (Or.inl ⟨rfl, ?c27⟩) hH ?r27
  case c27 => (intro w' _; go_simp; (try with_reducible rfl))
  try simp only [Act.put, List.setIfInBounds_toArray, List.set_cons_zero, List.set_cons_succ]
  refine wpAnyH_take (i := 30) (oi := ⟨some 48, _, _, _, _, _⟩) (v := ?v28) rfl (by kernel_rfl) (by kernel_rfl) (by kernel_rfl) (fun _ _ _ h => h) (Or.inl ⟨rfl, ?c28⟩) hH ?r28
  case c28 => (intro w' _; go_simp; (try with_reducible rfl))
  try simp only [Act.put, List.setIfInBounds_toArray, List.set_cons_zero, List.set_cons_succ]
  refine wpAnyH_take (i := 31) (oi := ⟨some 49, _, _, _, _, _⟩) (v := ?v29) rfl (by kernel_rfl) (by kernel_rfl) (by kernel_rfl) (fun _ _ _ h => h) (Or.inl ⟨rfl, ?c29⟩) hH ?r29
  case c29 => (intro w' hS; obtain ⟨x0, x1, x2, x3, x4⟩ := ky_cells hS.1; go_simp; (try with_reducible rfl))
  try simp only [Act.put, List.setIfInBounds_toArray, List.set_cons_zero, List.set_cons_succ]
  refine wpAnyH_ready (rs := [32]) (by kernel_rfl) (by simp) (AllReadyH.cons rfl (fun K hK => ?_) (AllReadyH.nil))
  go_simp
  refine (C3.out _).mono ?_
  rintro e w8 ⟨rfl, hbp⟩
  refine hK.out _ _ (AQ.next hH hbp) (fun hH => ?_)
  clear hK K
  clear hbp
  try simp only [Act.put, List.setIfInBounds_toArray, List.set_cons_zero, List.set_cons_succ]
  refine wpAnyH_take (i := 33) (oi := ⟨some 51, _, _, _, _, _⟩) (v := ?v30) rfl (by kernel_rfl) (by kernel_rfl) (by kernel_rfl) (fun _ _ _ h => h) (Or.inl ⟨rfl, ?c30⟩) hH ?r30
  case c30 => (intro w' _; go_simp; (try with_reducible rfl))
  try simp only [Act.put, List.setIfInBounds_toArray, List.set_cons_zero, List.set_cons_succ]
  refine wpAnyH_take (i := 34) (oi := ⟨some 0, _, _, _, _, _⟩) (v := ?v31) rfl (by kernel_rfl) (by kernel_rfl) (by kernel_rfl) (fun _ _ _ h => h) (Or.inl ⟨rfl, ?c31⟩) hH ?r31
  case c31 => (intro w' _; go_simp; (try with_reducible rfl))
  try simp only [Act.put, List.setIfInBounds_toArray, List.set_cons_zero, List.set_cons_succ]
  refine wpAnyH_done (by kernel_rfl) ?_ _
  go_wp2_with fail
  go_ret
  exact ⟨rfl, hH.2.2⟩
end Ky
end Go.Proofs.Ytabmdkjkdgipbaa
