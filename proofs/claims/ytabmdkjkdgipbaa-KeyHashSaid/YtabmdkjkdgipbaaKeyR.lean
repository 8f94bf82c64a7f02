/- Layer 10: the walk of KeyHash. -/
import Derived.Test.YtabmdkjkdgipbaaKeyP
set_option linter.unusedVariables false
set_option linter.unusedSimpArgs false
namespace Go.Proofs.Ytabmdkjkdgipbaa
open Go.ChangeShapes Go.WideShapes Go.ChangeAt Go.RowKit Go.Mtl
namespace Ky
open KeyM (lowB lessB hashN isPow strN)

theorem stripe_any (a b p q r : Nat) (s : Int) (ha : a < 4294967296) (hb : b < 4294967296) (hp : p < 65536) (hq : q < 65536) (hr : r < 256) (x : Nat) (hx : hashN a b p q r = x) (y : Int) (hy : strN x s = y) (W : World) :
    Calls Try.prog 13 #[.agg (kyc a b p q r), .int .i64 s] W fun e w' => e = .returned (.int .i64 y) ∧ Below W.heap.size W w' := by
  rcases hs : isPow s with _ | _
  · rw [KeyM.strN_no hs] at hy
    subst hy
    exact stripe_no a b p q r s hs W
  · rw [KeyM.strN_yes hs] at hy
    subst hy
    exact stripe_yes a b p q r s hs ha hb hp hq hr x hx W
theorem refStripe_any (a b p q r : Nat) (s : Int) (ha : a < 4294967296) (hb : b < 4294967296) (hp : p < 65536) (hq : q < 65536) (hr : r < 256) (x : Nat) (hx : hashN a b p q r = x) (y : Int) (hy : strN x s = y) (W : World) :
    Calls Try.prog 14 #[.agg (kyc a b p q r), .int .i64 s] W fun e w' => e = .returned (.int .i64 y) ∧ Below W.heap.size W w' := by
  rcases hs : isPow s with _ | _
  · rw [KeyM.strN_no hs] at hy
    subst hy
    exact refStripe_no a b p q r s hs W
  · rw [KeyM.strN_yes hs] at hy
    subst hy
    exact refStripe_yes a b p q r s hs ha hb hp hq hr x hx W

set_option maxHeartbeats 4000000 in
theorem keyHash_walk (p0 p1 p2 p3 p4 q0 q1 q2 q3 q4 s : Int) (w : World)
    (hp : (0 ≤ p0 ∧ p0 ≤ 4294967295) ∧ (0 ≤ p1 ∧ p1 ≤ 4294967295) ∧ (0 ≤ p2 ∧ p2 ≤ 65535) ∧ (0 ≤ p3 ∧ p3 ≤ 65535) ∧ (0 ≤ p4 ∧ p4 ≤ 255))
    (hq : (0 ≤ q0 ∧ q0 ≤ 4294967295) ∧ (0 ≤ q1 ∧ q1 ≤ 4294967295) ∧ (0 ≤ q2 ∧ q2 ≤ 65535) ∧ (0 ≤ q3 ∧ q3 ≤ 65535) ∧ (0 ≤ q4 ∧ q4 ≤ 255))
    (_hs : -9223372036854775808 ≤ s ∧ s ≤ 9223372036854775807) :
    Calls Try.prog 4 #[.agg (kyc p0 p1 p2 p3 p4), .agg (kyc q0 q1 q2 q3 q4), .int .i64 s] w fun e w' => e = .returned (.bool true) ∧ Below w.heap.size w w' := by
  obtain ⟨h0, h1, h2, h3, h4⟩ := hp
  obtain ⟨k0, k1, k2, k3, k4⟩ := hq
  obtain ⟨a, rfl⟩ := Int.eq_ofNat_of_zero_le h0.1
  obtain ⟨b, rfl⟩ := Int.eq_ofNat_of_zero_le h1.1
  obtain ⟨p, rfl⟩ := Int.eq_ofNat_of_zero_le h2.1
  obtain ⟨q, rfl⟩ := Int.eq_ofNat_of_zero_le h3.1
  obtain ⟨r, rfl⟩ := Int.eq_ofNat_of_zero_le h4.1
  obtain ⟨a2, rfl⟩ := Int.eq_ofNat_of_zero_le k0.1
  obtain ⟨b2, rfl⟩ := Int.eq_ofNat_of_zero_le k1.1
  obtain ⟨p2, rfl⟩ := Int.eq_ofNat_of_zero_le k2.1
  obtain ⟨q2, rfl⟩ := Int.eq_ofNat_of_zero_le k3.1
  obtain ⟨r2, rfl⟩ := Int.eq_ofNat_of_zero_le k4.1
  have C0 := Lib.hid awake_any
  obtain ⟨x, hx⟩ : ∃ x, hashN a b p q r = x := ⟨_, rfl⟩
  obtain ⟨y, hy⟩ : ∃ y, strN x s = y := ⟨_, rfl⟩
  obtain ⟨g, hg⟩ : ∃ g, lessB a b p q r a2 b2 p2 q2 r2 = g := ⟨_, rfl⟩
  have C1 := Lib.hid (hash_any a b p q r (by omega) (by omega) (by omega) (by omega) (by omega) x hx)
  have C2 := Lib.hid (refHash_any a b p q r (by omega) (by omega) (by omega) (by omega) (by omega) x hx)
  have C3 := Lib.hid (stripe_any a b p q r s (by omega) (by omega) (by omega) (by omega) (by omega) x hx y hy)
  have C4 := Lib.hid (refStripe_any a b p q r s (by omega) (by omega) (by omega) (by omega) (by omega) x hx y hy)
  have C5 := Lib.hid (less_any a b p q r a2 b2 p2 q2 r2 (by omega) (by omega) (by omega) (by omega) g hg)
  have C6 := Lib.hid (refLess_any a b p q r a2 b2 p2 q2 r2 (by omega) (by omega) (by omega) (by omega) (by omega) (by omega) (by omega) (by omega) g hg)
  have HQ : Hid (AQ w w.heap.size (w.heap.size + 1) (kyc a b p q r) (kyc a2 b2 p2 q2 r2) ((w.alloc (.cells (kyc a b p q r) 29)).alloc (.cells (kyc a2 b2 p2 q2 r2) 29))) :=
    Lib.hid ⟨(Blk.box w (kyc a b p q r) 29).alloc _, Blk.box1 w _ (kyc a2 b2 p2 q2 r2) 29, ((Below.refl _ w).alloc (Nat.le_refl _) _).alloc (by simp) _⟩
  clear hx hy hg h0 h1 h2 h3 h4 k0 k1 k2 k3 k4
  go_enter Try.func4, Try.ntmps4
  go_wp2_with fail
  obtain ⟨w4, hw4⟩ : ∃ w4, w4 = ((w.alloc (.cells (kyc a b p q r) 29)).alloc (.cells (kyc a2 b2 p2 q2 r2) 29)) := ⟨_, rfl⟩
  rw [← hw4] at HQ ⊢
  clear hw4
  refine wp_region_held_drew (S := fun w' => AQ w w.heap.size (w.heap.size + 1) (kyc a b p q r) (kyc a2 b2 p2 q2 r2) w') (by kernel_rfl) (HQ.out.drew) (fun hH => ?_)
  refine wpAnyH_ready (rs := [0]) (by kernel_rfl) (by simp) (AllReadyH.cons rfl (fun K hK => ?_) (AllReadyH.nil))
  go_simp
  refine (C0.out _).mono ?_
  rintro e w8 ⟨rfl, hbp⟩
  refine hK.out _ _ (AQ.next hH hbp) (fun hH => ?_)
  clear hK K
  clear hbp
  try simp only [Act.put, List.setIfInBounds_toArray, List.set_cons_zero, List.set_cons_succ]
  refine wpAnyH_take (i := 1) (oi := ⟨some 8, _, _, _, _, _⟩) (v := ?v1) rfl (by kernel_rfl) (by kernel_rfl) (by kernel_rfl) (fun _ _ _ h => h) (Or.inl ⟨rfl, ?c1⟩) hH ?r1
  case c1 => (intro w' _; go_simp; (try with_reducible rfl))
  try simp only [Act.put, List.setIfInBounds_toArray, List.set_cons_zero, List.set_cons_succ]
  refine wpAnyH_take (i := 2) (oi := ⟨some 9, _, _, _, _, _⟩) (v := ?v2) rfl (by kernel_rfl) (by kernel_rfl) (by kernel_rfl) (fun _ _ _ h => h) (Or.inl ⟨rfl, ?c2⟩) hH ?r2
  case c2 => (intro w' hS; obtain ⟨x0, x1, x2, x3, x4⟩ := ky_cells hS.1; go_simp; (try with_reducible rfl))
  try simp only [Act.put, List.setIfInBounds_toArray, List.set_cons_zero, List.set_cons_succ]
  refine wpAnyH_take (i := 4) (oi := ⟨some 11, _, _, _, _, _⟩) (v := ?v3) rfl (by kernel_rfl) (by kernel_rfl) (by kernel_rfl) (fun _ _ _ h => h) (Or.inl ⟨rfl, ?c3⟩) hH ?r3
  case c3 => (intro w' hS; obtain ⟨x0, x1, x2, x3, x4⟩ := ky_cells hS.1; go_simp; (try with_reducible rfl))
  try simp only [Act.put, List.setIfInBounds_toArray, List.set_cons_zero, List.set_cons_succ]
  refine wpAnyH_ready (rs := [3]) (by kernel_rfl) (by simp) (AllReadyH.cons rfl (fun K hK => ?_) (AllReadyH.nil))
  go_simp
  refine (C1.out _).mono ?_
  rintro e w8 ⟨rfl, hbp⟩
  refine hK.out _ _ (AQ.next hH hbp) (fun hH => ?_)
  clear hK K
  clear hbp
  try simp only [Act.put, List.setIfInBounds_toArray, List.set_cons_zero, List.set_cons_succ]
  refine wpAnyH_ready (rs := [5]) (by kernel_rfl) (by simp) (AllReadyH.cons rfl (fun K hK => ?_) (AllReadyH.nil))
  go_simp
  refine (C2.out _).mono ?_
  rintro e w8 ⟨rfl, hbp⟩
  refine hK.out _ _ (AQ.next hH hbp) (fun hH => ?_)
  clear hK K
  clear hbp
  try simp only [Act.put, List.setIfInBounds_toArray, List.set_cons_zero, List.set_cons_succ]
  refine wpAnyH_take (i := 6) (oi := ⟨some 13, _, _, _, _, _⟩) (v := ?v4) rfl (by kernel_rfl) (by kernel_rfl) (by kernel_rfl) (fun _ _ _ h => h) (Or.inl ⟨rfl, ?c4⟩) hH ?r4
  case c4 => (intro w' _; go_simp; (try with_reducible rfl))
  try simp only [Act.put, List.setIfInBounds_toArray, List.set_cons_zero, List.set_cons_succ]
  refine wpAnyH_take (i := 7) (oi := ⟨some 14, _, _, _, _, _⟩) (v := ?v5) rfl (by kernel_rfl) (by kernel_rfl) (by kernel_rfl) (fun _ _ _ h => h) (Or.inl ⟨rfl, ?c5⟩) hH ?r5
  case c5 => (intro w' _; go_simp; (try with_reducible rfl))
  try simp only [Act.put, List.setIfInBounds_toArray, List.set_cons_zero, List.set_cons_succ]
  refine wpAnyH_take (i := 8) (oi := ⟨some 15, _, _, _, _, _⟩) (v := ?v6) rfl (by kernel_rfl) (by kernel_rfl) (by kernel_rfl) (fun _ _ _ h => h) (Or.inl ⟨rfl, ?c6⟩) hH ?r6
  case c6 => (intro w' _; go_simp; (try with_reducible rfl))
  try simp only [Act.put, List.setIfInBounds_toArray, List.set_cons_zero, List.set_cons_succ]
  refine wpAnyH_take (i := 9) (oi := ⟨some 16, _, _, _, _, _⟩) (v := ?v7) rfl (by kernel_rfl) (by kernel_rfl) (by kernel_rfl) (fun _ _ _ h => h) (Or.inl ⟨rfl, ?c7⟩) hH ?r7
  case c7 => (intro w' hS; obtain ⟨x0, x1, x2, x3, x4⟩ := ky_cells hS.1; go_simp; (try with_reducible rfl))
  try simp only [Act.put, List.setIfInBounds_toArray, List.set_cons_zero, List.set_cons_succ]
  refine wpAnyH_take (i := 10) (oi := ⟨some 17, _, _, _, _, _⟩) (v := ?v8) rfl (by kernel_rfl) (by kernel_rfl) (by kernel_rfl) (fun _ _ _ h => h) (Or.inl ⟨rfl, ?c8⟩) hH ?r8
  case c8 => (intro w' _; go_simp; (try with_reducible rfl))
  try simp only [Act.put, List.setIfInBounds_toArray, List.set_cons_zero, List.set_cons_succ]
  refine wpAnyH_take (i := 12) (oi := ⟨some 19, _, _, _, _, _⟩) (v := ?v9) rfl (by kernel_rfl) (by kernel_rfl) (by kernel_rfl) (fun _ _ _ h => h) (Or.inl ⟨rfl, ?c9⟩) hH ?r9
  case c9 => (intro w' hS; obtain ⟨x0, x1, x2, x3, x4⟩ := ky_cells hS.1; go_simp; (try with_reducible rfl))
  try simp only [Act.put, List.setIfInBounds_toArray, List.set_cons_zero, List.set_cons_succ]
  refine wpAnyH_take (i := 13) (oi := ⟨some 20, _, _, _, _, _⟩) (v := ?v10) rfl (by kernel_rfl) (by kernel_rfl) (by kernel_rfl) (fun _ _ _ h => h) (Or.inl ⟨rfl, ?c10⟩) hH ?r10
  case c10 => (intro w' _; go_simp; (try with_reducible rfl))
  try simp only [Act.put, List.setIfInBounds_toArray, List.set_cons_zero, List.set_cons_succ]
  refine wpAnyH_ready (rs := [11]) (by kernel_rfl) (by simp) (AllReadyH.cons rfl (fun K hK => ?_) (AllReadyH.nil))
  go_simp
  refine (C3.out _).mono ?_
  rintro e w8 ⟨rfl, hbp⟩
  refine hK.out _ _ (AQ.next hH hbp) (fun hH => ?_)
  clear hK K
  clear hbp
  try simp only [Act.put, List.setIfInBounds_toArray, List.set_cons_zero, List.set_cons_succ]
  refine wpAnyH_ready (rs := [14]) (by kernel_rfl) (by simp) (AllReadyH.cons rfl (fun K hK => ?_) (AllReadyH.nil))
  go_simp
  refine (C4.out _).mono ?_
  rintro e w8 ⟨rfl, hbp⟩
  refine hK.out _ _ (AQ.next hH hbp) (fun hH => ?_)
  clear hK K
  clear hbp
  try simp only [Act.put, List.setIfInBounds_toArray, List.set_cons_zero, List.set_cons_succ]
  refine wpAnyH_take (i := 15) (oi := ⟨some 22, _, _, _, _, _⟩) (v := ?v11) rfl (by kernel_rfl) (by kernel_rfl) (by kernel_rfl) (fun _ _ _ h => h) (Or.inl ⟨rfl, ?c11⟩) hH ?r11
  case c11 => (intro w' _; go_simp; (try with_reducible rfl))
  try simp only [Act.put, List.setIfInBounds_toArray, List.set_cons_zero, List.set_cons_succ]
  refine wpAnyH_take (i := 16) (oi := ⟨some 23, _, _, _, _, _⟩) (v := ?v12) rfl (by kernel_rfl) (by kernel_rfl) (by kernel_rfl) (fun _ _ _ h => h) (Or.inl ⟨rfl, ?c12⟩) hH ?r12
  case c12 => (intro w' _; go_simp; (try with_reducible rfl))
  try simp only [Act.put, List.setIfInBounds_toArray, List.set_cons_zero, List.set_cons_succ]
  refine wpAnyH_take (i := 17) (oi := ⟨some 24, _, _, _, _, _⟩) (v := ?v13) rfl (by kernel_rfl) (by kernel_rfl) (by kernel_rfl) (fun _ _ _ h => h) (Or.inl ⟨rfl, ?c13⟩) hH ?r13
  case c13 => (intro w' _; go_simp; (try with_reducible rfl))
  try simp only [Act.put, List.setIfInBounds_toArray, List.set_cons_zero, List.set_cons_succ]
  refine wpAnyH_take (i := 18) (oi := ⟨some 25, _, _, _, _, _⟩) (v := ?v14) rfl (by kernel_rfl) (by kernel_rfl) (by kernel_rfl) (fun _ _ _ h => h) (Or.inl ⟨rfl, ?c14⟩) hH ?r14
  case c14 => (intro w' hS; obtain ⟨x0, x1, x2, x3, x4⟩ := ky_cells hS.1; go_simp; (try with_reducible rfl))
  try simp only [Act.put, List.setIfInBounds_toArray, List.set_cons_zero, List.set_cons_succ]
  refine wpAnyH_take (i := 19) (oi := ⟨some 26, _, _, _, _, _⟩) (v := ?v15) rfl (by kernel_rfl) (by kernel_rfl) (by kernel_rfl) (fun _ _ _ h => h) (Or.inl ⟨rfl, ?c15⟩) hH ?r15
  case c15 => (intro w' hS; obtain ⟨x0, x1, x2, x3, x4⟩ := ky_cells hS.2.1; go_simp; (try with_reducible rfl))
  try simp only [Act.put, List.setIfInBounds_toArray, List.set_cons_zero, List.set_cons_succ]
  refine wpAnyH_take (i := 21) (oi := ⟨some 28, _, _, _, _, _⟩) (v := ?v16) rfl (by kernel_rfl) (by kernel_rfl) (by kernel_rfl) (fun _ _ _ h => h) (Or.inl ⟨rfl, ?c16⟩) hH ?r16
  case c16 => (intro w' hS; obtain ⟨x0, x1, x2, x3, x4⟩ := ky_cells hS.1; go_simp; (try with_reducible rfl))
  try simp only [Act.put, List.setIfInBounds_toArray, List.set_cons_zero, List.set_cons_succ]
  refine wpAnyH_take (i := 22) (oi := ⟨some 29, _, _, _, _, _⟩) (v := ?v17) rfl (by kernel_rfl) (by kernel_rfl) (by kernel_rfl) (fun _ _ _ h => h) (Or.inl ⟨rfl, ?c17⟩) hH ?r17
  case c17 => (intro w' hS; obtain ⟨x0, x1, x2, x3, x4⟩ := ky_cells hS.2.1; go_simp; (try with_reducible rfl))
  try simp only [Act.put, List.setIfInBounds_toArray, List.set_cons_zero, List.set_cons_succ]
  refine wpAnyH_ready (rs := [20]) (by kernel_rfl) (by simp) (AllReadyH.cons rfl (fun K hK => ?_) (AllReadyH.nil))
  go_simp
  refine (C5.out _).mono ?_
  rintro e w8 ⟨rfl, hbp⟩
  refine hK.out _ _ (AQ.next hH hbp) (fun hH => ?_)
  clear hK K
  clear hbp
  try simp only [Act.put, List.setIfInBounds_toArray, List.set_cons_zero, List.set_cons_succ]
  refine wpAnyH_ready (rs := [23]) (by kernel_rfl) (by simp) (AllReadyH.cons rfl (fun K hK => ?_) (AllReadyH.nil))
  go_simp
  refine (C6.out _).mono ?_
  rintro e w8 ⟨rfl, hbp⟩
  refine hK.out _ _ (AQ.next hH hbp) (fun hH => ?_)
  clear hK K
  clear hbp
  try simp only [Act.put, List.setIfInBounds_toArray, List.set_cons_zero, List.set_cons_succ]
  refine wpAnyH_take (i := 24) (oi := ⟨some 31, _, _, _, _, _⟩) (v := ?v18) rfl (by kernel_rfl) (by kernel_rfl) (by kernel_rfl) (fun _ _ _ h => h) (Or.inl ⟨rfl, ?c18⟩) hH ?r18
  case c18 => (intro w' _; go_simp; (try with_reducible rfl))
  try simp only [Act.put, List.setIfInBounds_toArray, List.set_cons_zero, List.set_cons_succ]
  refine wpAnyH_take (i := 25) (oi := ⟨some 32, _, _, _, _, _⟩) (v := ?v19) rfl (by kernel_rfl) (by kernel_rfl) (by kernel_rfl) (fun _ _ _ h => h) (Or.inl ⟨rfl, ?c19⟩) hH ?r19
  case c19 => (intro w' _; go_simp; (try with_reducible rfl))
  try simp only [Act.put, List.setIfInBounds_toArray, List.set_cons_zero, List.set_cons_succ]
  refine wpAnyH_take (i := 26) (oi := ⟨some 6, _, _, _, _, _⟩) (v := ?v20) rfl (by kernel_rfl) (by kernel_rfl) (by kernel_rfl) (fun _ _ _ h => h) (Or.inl ⟨rfl, ?c20⟩) hH ?r20
  case c20 => (intro w' _; go_simp; (try with_reducible rfl))
  try simp only [Act.put, List.setIfInBounds_toArray, List.set_cons_zero, List.set_cons_succ]
  refine wpAnyH_done (by kernel_rfl) ?_ _
  go_wp2_with fail
  go_ret
  exact ⟨by simp, hH.2.2⟩
end Ky
end Go.Proofs.Ytabmdkjkdgipbaa
