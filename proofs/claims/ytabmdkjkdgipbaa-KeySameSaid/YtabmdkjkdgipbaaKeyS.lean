/- Layer 10: the walk of KeySame. -/
import Derived.Test.YtabmdkjkdgipbaaKeyQ
import Derived.Deep.DeepCutAuto
set_option linter.unusedVariables false
set_option linter.unusedSimpArgs false
namespace Go.Proofs.Ytabmdkjkdgipbaa
open Go.ChangeShapes Go.WideShapes Go.ChangeAt Go.RowKit Go.Mtl
namespace Ky
open KeyM (lowB lessB hashN isPow strN)

/-- Two packets and two keys in their blocks. -/
def SQ (W : World) (g k : Nat) (P Q ka kb : Array Value) (w : World) : Prop := Blk w W.heap.size P 25 ∧ Blk w (W.heap.size + 1) Q 25 ∧ AQ W g k ka kb w
theorem SQ.next {W w w' : World} {g k : Nat} {P Q ka kb : Array Value} (H : SQ W g k P Q ka kb w) (hb : Below w.heap.size w w') : SQ W g k P Q ka kb w' := ⟨H.1.next hb, H.2.1.next hb, H.2.2.next hb⟩
theorem SQ.drew {W w : World} {g k : Nat} {P Q ka kb : Array Value} (H : SQ W g k P Q ka kb w) : SQ W g k P Q ka kb w.drew := ⟨H.1.drew, H.2.1.drew, H.2.2.drew⟩

/-- A packet's key: its endpoints, in order. -/
theorem of_ord {g : Bool} {sr ds sp dp a b p q : Nat} (hg : lowB ds dp sr sp = g) (hk : g = true ∧ ds = a ∧ sr = b ∧ dp = p ∧ sp = q ∨ g = false ∧ sr = a ∧ ds = b ∧ sp = p ∧ dp = q) :
    (ds < sr ∨ ds = sr ∧ dp < sp) ∧ ds = a ∧ sr = b ∧ dp = p ∧ sp = q ∨ ¬ (ds < sr ∨ ds = sr ∧ dp < sp) ∧ sr = a ∧ ds = b ∧ sp = p ∧ dp = q := by
  unfold lowB at hg
  rcases hk with ⟨rfl, h⟩ | ⟨rfl, h⟩
  · exact Or.inl ⟨of_decide_eq_true hg, h⟩
  · exact Or.inr ⟨of_decide_eq_false hg, h⟩
theorem same_iff {sr ds sp dp a b p q sr2 ds2 sp2 dp2 a2 b2 p2 q2 : Nat}
    (h1 : (ds < sr ∨ ds = sr ∧ dp < sp) ∧ ds = a ∧ sr = b ∧ dp = p ∧ sp = q ∨ ¬ (ds < sr ∨ ds = sr ∧ dp < sp) ∧ sr = a ∧ ds = b ∧ sp = p ∧ dp = q)
    (h2 : (ds2 < sr2 ∨ ds2 = sr2 ∧ dp2 < sp2) ∧ ds2 = a2 ∧ sr2 = b2 ∧ dp2 = p2 ∧ sp2 = q2 ∨ ¬ (ds2 < sr2 ∨ ds2 = sr2 ∧ dp2 < sp2) ∧ sr2 = a2 ∧ ds2 = b2 ∧ sp2 = p2 ∧ dp2 = q2) :
    (a = a2 ∧ b = b2 ∧ p = p2 ∧ q = q2) ↔ ((sr = sr2 ∧ sp = sp2 ∧ ds = ds2 ∧ dp = dp2) ∨ (sr = ds2 ∧ sp = dp2 ∧ ds = sr2 ∧ dp = sp2)) := by omega

set_option maxRecDepth 8000 in
set_option maxHeartbeats 4000000 in
theorem keySame_walk (p0 p1 p2 p3 p4 p5 p6 q0 q1 q2 q3 q4 q5 q6 : Int) (w : World)
    (hp : (0 ≤ p0 ∧ p0 ≤ 255) ∧ (0 ≤ p1 ∧ p1 ≤ 4294967295) ∧ (0 ≤ p2 ∧ p2 ≤ 4294967295) ∧ (0 ≤ p3 ∧ p3 ≤ 65535) ∧ (0 ≤ p4 ∧ p4 ≤ 65535) ∧ (0 ≤ p5 ∧ p5 ≤ 255) ∧ (0 ≤ p6 ∧ p6 ≤ 255))
    (hq : (0 ≤ q0 ∧ q0 ≤ 255) ∧ (0 ≤ q1 ∧ q1 ≤ 4294967295) ∧ (0 ≤ q2 ∧ q2 ≤ 4294967295) ∧ (0 ≤ q3 ∧ q3 ≤ 65535) ∧ (0 ≤ q4 ∧ q4 ≤ 65535) ∧ (0 ≤ q5 ∧ q5 ≤ 255) ∧ (0 ≤ q6 ∧ q6 ≤ 255)) :
    Calls Try.prog 6 #[.agg (pkc p0 p1 p2 p3 p4 p5 p6), .agg (pkc q0 q1 q2 q3 q4 q5 q6)] w fun e w' => e = .returned (.bool true) ∧ Below w.heap.size w w' := by
  obtain ⟨h0, h1, h2, h3, h4, h5, h6⟩ := hp
  obtain ⟨k0, k1, k2, k3, k4, k5, k6⟩ := hq
  obtain ⟨pr, rfl⟩ := Int.eq_ofNat_of_zero_le h0.1
  obtain ⟨sr, rfl⟩ := Int.eq_ofNat_of_zero_le h1.1
  obtain ⟨ds, rfl⟩ := Int.eq_ofNat_of_zero_le h2.1
  obtain ⟨sp, rfl⟩ := Int.eq_ofNat_of_zero_le h3.1
  obtain ⟨dp, rfl⟩ := Int.eq_ofNat_of_zero_le h4.1
  obtain ⟨f, rfl⟩ := Int.eq_ofNat_of_zero_le h5.1
  obtain ⟨kd, rfl⟩ := Int.eq_ofNat_of_zero_le h6.1
  obtain ⟨pr2, rfl⟩ := Int.eq_ofNat_of_zero_le k0.1
  obtain ⟨sr2, rfl⟩ := Int.eq_ofNat_of_zero_le k1.1
  obtain ⟨ds2, rfl⟩ := Int.eq_ofNat_of_zero_le k2.1
  obtain ⟨sp2, rfl⟩ := Int.eq_ofNat_of_zero_le k3.1
  obtain ⟨dp2, rfl⟩ := Int.eq_ofNat_of_zero_le k4.1
  obtain ⟨f2, rfl⟩ := Int.eq_ofNat_of_zero_le k5.1
  obtain ⟨kd2, rfl⟩ := Int.eq_ofNat_of_zero_le k6.1
  obtain ⟨g, hg⟩ : ∃ g, lowB ds dp sr sp = g := ⟨_, rfl⟩
  obtain ⟨a, b, p, q, hk⟩ := of_ex g sr ds sp dp
  obtain ⟨g2, hg2⟩ : ∃ g, lowB ds2 dp2 sr2 sp2 = g := ⟨_, rfl⟩
  obtain ⟨a2, b2, p2, q2, hk2⟩ := of_ex g2 sr2 ds2 sp2 dp2
  have C0 := Lib.hid awake_any
  have C1 := Lib.hid (of_any pr sr ds sp dp f kd (by omega) (by omega) a b p q g hg hk)
  have C2 := Lib.hid (of_any pr2 sr2 ds2 sp2 dp2 f2 kd2 (by omega) (by omega) a2 b2 p2 q2 g2 hg2 hk2)
  have HI := Lib.hid (same_iff (of_ord hg hk) (of_ord hg2 hk2))
  have HP := Lib.hid ((Blk.box w (pkc pr sr ds sp dp f kd) 25).alloc (.cells (pkc pr2 sr2 ds2 sp2 dp2 f2 kd2) 25))
  have HR := Lib.hid (Blk.box1 w (.cells (pkc pr sr ds sp dp f kd) 25) (pkc pr2 sr2 ds2 sp2 dp2 f2 kd2) 25)
  have HB := Lib.hid (((Below.refl _ w).alloc (Nat.le_refl _) (.cells (pkc pr sr ds sp dp f kd) 25)).alloc (by simp) (.cells (pkc pr2 sr2 ds2 sp2 dp2 f2 kd2) 25))
  clear hg hk hg2 hk2 h0 h1 h2 h3 h4 h5 h6 k0 k1 k2 k3 k4 k5 k6
  obtain ⟨x0, x1, x2, x3, x4, x5, x6⟩ := pk_cells HP.out
  go_enter Try.func6, Try.ntmps6
  go_wp2_with fail
  clear x0 x1 x2 x3 x4 x5 x6
  refine (C1.out _).mono ?_
  rintro e w1 ⟨rfl, hb1⟩
  have HP1 := Lib.hid ((HP.out.next hb1).alloc (.cells (kyc a b p q pr) 29))
  have HR1 := Lib.hid ((HR.out.next hb1).alloc (.cells (kyc a b p q pr) 29))
  have hbb := HB.out.trans (hb1.mono HB.out.size)
  have HB1 := Lib.hid (hbb.alloc hbb.size (.cells (kyc a b p q pr) 29))
  have HK1 := Lib.hid (Blk.box w1 (kyc a b p q pr) 29)
  clear HP HR HB hb1 hbb
  obtain ⟨x0, x1, x2, x3, x4, x5, x6⟩ := pk_cells HR1.out
  go_wp2_with fail
  refine (C2.out _).mono ?_
  rintro e w2 ⟨rfl, hb2⟩
  have HP2 := (HP1.out.next hb2).alloc (.cells (kyc a2 b2 p2 q2 pr2) 29)
  have HR2 := (HR1.out.next hb2).alloc (.cells (kyc a2 b2 p2 q2 pr2) 29)
  have hbb := HB1.out.trans (hb2.mono HB1.out.size)
  have HB2 := hbb.alloc hbb.size (.cells (kyc a2 b2 p2 q2 pr2) 29)
  have HK2 := (HK1.out.next hb2).alloc (.cells (kyc a2 b2 p2 q2 pr2) 29)
  have HL2 := Blk.box w2 (kyc a2 b2 p2 q2 pr2) 29
  have HQ0 : Hid (SQ w w1.heap.size w2.heap.size (pkc pr sr ds sp dp f kd) (pkc pr2 sr2 ds2 sp2 dp2 f2 kd2) (kyc a b p q pr) (kyc a2 b2 p2 q2 pr2) (w2.alloc (.cells (kyc a2 b2 p2 q2 pr2) 29))) := Lib.hid ⟨HP2, HR2, HK2, HL2, HB2⟩
  clear HP1 HR1 HB1 HK1 hb2 hbb x0 x1 x2 x3 x4 x5 x6 HP2 HR2 HB2 HK2 HL2
  go_upto_region 3 with fail
  obtain ⟨w4, hw4⟩ : ∃ w4, w4 = w2.alloc (.cells (kyc a2 b2 p2 q2 pr2) 29) := ⟨_, rfl⟩
  obtain ⟨g5, hg5⟩ : ∃ g, g = w1.heap.size := ⟨_, rfl⟩
  obtain ⟨g7, hg7⟩ : ∃ g, g = w2.heap.size := ⟨_, rfl⟩
  have HQ := HQ0
  rw [← hw4, ← hg5, ← hg7] at HQ ⊢
  clear hw4 hg5 hg7 HQ0
  obtain ⟨x0, x1, x2, x3, x4, x5, x6⟩ := pk_cells HQ.out.1
  obtain ⟨y0, y1, y2, y3, y4, y5, y6⟩ := pk_cells HQ.out.2.1
  go_cut [9] (fun s9 wx => s9 = .bool (decide (sr = sr2 ∧ sp = sp2 ∧ ds = ds2 ∧ dp = dp2)) ∧ wx = w4)
  case first =>
    by_cases e0 : sr = sr2
    · have d0 : ((sr : Int) == (sr2 : Int)) = true := by simp; omega
      by_cases e1 : sp = sp2
      · have d1 : ((sp : Int) == (sp2 : Int)) = true := by simp; omega
        by_cases e2 : ds = ds2
        · have d2 : ((ds : Int) == (ds2 : Int)) = true := by simp; omega
          by_cases e3 : dp = dp2
          · have d3 : ((dp : Int) == (dp2 : Int)) = true := by simp; omega
            go_wp2_with fail
            go_meet
            exact ⟨congrArg Value.bool (decide_eq_true (by omega)).symm, rfl⟩
          · have d3 : ((dp : Int) == (dp2 : Int)) = false := by simp; omega
            go_wp2_with fail
            go_meet
            exact ⟨congrArg Value.bool (decide_eq_false (by omega)).symm, rfl⟩
        · have d2 : ((ds : Int) == (ds2 : Int)) = false := by simp; omega
          go_wp2_with fail
          go_meet
          exact ⟨congrArg Value.bool (decide_eq_false (by omega)).symm, rfl⟩
      · have d1 : ((sp : Int) == (sp2 : Int)) = false := by simp; omega
        go_wp2_with fail
        go_meet
        exact ⟨congrArg Value.bool (decide_eq_false (by omega)).symm, rfl⟩
    · have d0 : ((sr : Int) == (sr2 : Int)) = false := by simp; omega
      go_wp2_with fail
      go_meet
      exact ⟨congrArg Value.bool (decide_eq_false (by omega)).symm, rfl⟩
  case rest =>
    obtain ⟨rfl, rfl⟩ := hcut
    go_upto_region 4 with fail
    go_cut [10] (fun s10 wx => s10 = .bool (decide (sr = ds2 ∧ sp = dp2 ∧ ds = sr2 ∧ dp = sp2)) ∧ wx = wc)
    case first =>
      by_cases e0 : sr = ds2
      · have d0 : ((sr : Int) == (ds2 : Int)) = true := by simp; omega
        by_cases e1 : sp = dp2
        · have d1 : ((sp : Int) == (dp2 : Int)) = true := by simp; omega
          by_cases e2 : ds = sr2
          · have d2 : ((ds : Int) == (sr2 : Int)) = true := by simp; omega
            by_cases e3 : dp = sp2
            · have d3 : ((dp : Int) == (sp2 : Int)) = true := by simp; omega
              go_wp2_with fail
              go_meet
              exact ⟨congrArg Value.bool (decide_eq_true (by omega)).symm, rfl⟩
            · have d3 : ((dp : Int) == (sp2 : Int)) = false := by simp; omega
              go_wp2_with fail
              go_meet
              exact ⟨congrArg Value.bool (decide_eq_false (by omega)).symm, rfl⟩
          · have d2 : ((ds : Int) == (sr2 : Int)) = false := by simp; omega
            go_wp2_with fail
            go_meet
            exact ⟨congrArg Value.bool (decide_eq_false (by omega)).symm, rfl⟩
        · have d1 : ((sp : Int) == (dp2 : Int)) = false := by simp; omega
          go_wp2_with fail
          go_meet
          exact ⟨congrArg Value.bool (decide_eq_false (by omega)).symm, rfl⟩
      · have d0 : ((sr : Int) == (ds2 : Int)) = false := by simp; omega
        go_wp2_with fail
        go_meet
        exact ⟨congrArg Value.bool (decide_eq_false (by omega)).symm, rfl⟩
    case rest =>
      obtain ⟨rfl, rfl⟩ := hcut
      clear x0 x1 x2 x3 x4 x5 x6 y0 y1 y2 y3 y4 y5 y6
      go_upto_region 5 with fail
      have hi := HI.out
      by_cases e0 : pr = pr2
      · have d0 : ((pr : Int) == (pr2 : Int)) = true := by simp; omega
        by_cases e1 : sr = sr2 ∧ sp = sp2 ∧ ds = ds2 ∧ dp = dp2
        · rw [decide_eq_true e1]
          have EQ : ∀ w, (Op.equalIn 10000 29 (.agg #[.int .u32 a, .int .u32 b, .int .u16 p, .int .u16 q, .int .u8 pr]) (.agg #[.int .u32 a2, .int .u32 b2, .int .u16 p2, .int .u16 q2, .int .u8 pr2])).run Try.prog w = .ok true w := fun w => (ky_eq a b p q pr a2 b2 p2 q2 pr2 w).trans (by rw [decide_eq_true (by omega)])
          clear hi e0 e1
          refine wp_region_held_drew (S := fun w' => SQ w g5 g7 (pkc pr sr ds sp dp f kd) (pkc pr2 sr2 ds2 sp2 dp2 f2 kd2) (kyc a b p q pr) (kyc a2 b2 p2 q2 pr2) w') (by kernel_rfl) (HQ.out.drew) (fun hH => ?_)
          refine wpAnyH_ready (rs := [0]) (by kernel_rfl) (by simp) (AllReadyH.cons rfl (fun K hK => ?_) (AllReadyH.nil))
          go_simp
          refine (C0.out _).mono ?_
          rintro e w8 ⟨rfl, hbp⟩
          refine hK.out _ _ (SQ.next hH hbp) (fun hH => ?_)
          clear hK K
          clear hbp
          try simp only [Act.put, List.setIfInBounds_toArray, List.set_cons_zero, List.set_cons_succ]
          refine wpAnyH_take (i := 1) (oi := ⟨some 74, _, _, _, _, _⟩) (v := ?v1) rfl (by kernel_rfl) (by kernel_rfl) (by kernel_rfl) (fun _ _ _ h => h) (Or.inl ⟨rfl, ?c1⟩) hH ?r1
          case c1 => (intro w' _; go_simp; (try with_reducible rfl))
          try simp only [Act.put, List.setIfInBounds_toArray, List.set_cons_zero, List.set_cons_succ]
          refine wpAnyH_take (i := 2) (oi := ⟨some 75, _, _, _, _, _⟩) (v := ?v2) rfl (by kernel_rfl) (by kernel_rfl) (by kernel_rfl) (fun _ _ _ h => h) (Or.inl ⟨rfl, ?c2⟩) hH ?r2
          case c2 => (intro w' hS; obtain ⟨x0, x1, x2, x3, x4⟩ := ky_cells hS.2.2.1; go_simp; (try with_reducible rfl))
          try simp only [Act.put, List.setIfInBounds_toArray, List.set_cons_zero, List.set_cons_succ]
          refine wpAnyH_take (i := 3) (oi := ⟨some 76, _, _, _, _, _⟩) (v := ?v3) rfl (by kernel_rfl) (by kernel_rfl) (by kernel_rfl) (fun _ _ _ h => h) (Or.inl ⟨rfl, ?c3⟩) hH ?r3
          case c3 => (intro w' hS; obtain ⟨x0, x1, x2, x3, x4⟩ := ky_cells hS.2.2.2.1; go_simp; (try with_reducible rfl))
          try simp only [Act.put, List.setIfInBounds_toArray, List.set_cons_zero, List.set_cons_succ]
          refine wpAnyH_take (i := 4) (oi := ⟨some 77, _, _, _, _, _⟩) (v := ?v4) rfl (by kernel_rfl) (by kernel_rfl) (by kernel_rfl) (fun _ _ _ h => h) (Or.inl ⟨rfl, ?c4⟩) hH ?r4
          case c4 => (intro w' _; go_simp; (try with_reducible rfl))
          try simp only [Act.put, List.setIfInBounds_toArray, List.set_cons_zero, List.set_cons_succ]
          refine wpAnyH_take (i := 5) (oi := ⟨some 78, _, _, _, _, _⟩) (v := ?v5) rfl (by kernel_rfl) (by kernel_rfl) (by kernel_rfl) (fun _ _ _ h => h) (Or.inl ⟨rfl, ?c5⟩) hH ?r5
          case c5 => (intro w' _; go_simp; (try with_reducible rfl))
          try simp only [Act.put, List.setIfInBounds_toArray, List.set_cons_zero, List.set_cons_succ]
          refine wpAnyH_take (i := 6) (oi := ⟨some 79, _, _, _, _, _⟩) (v := ?v6) rfl (by kernel_rfl) (by kernel_rfl) (by kernel_rfl) (fun _ _ _ h => h) (Or.inl ⟨rfl, ?c6⟩) hH ?r6
          case c6 => (intro w' hS; obtain ⟨x0, x1, x2, x3, x4, x5, x6⟩ := pk_cells hS.1; go_simp; (try with_reducible rfl))
          try simp only [Act.put, List.setIfInBounds_toArray, List.set_cons_zero, List.set_cons_succ]
          refine wpAnyH_take (i := 7) (oi := ⟨some 80, _, _, _, _, _⟩) (v := ?v7) rfl (by kernel_rfl) (by kernel_rfl) (by kernel_rfl) (fun _ _ _ h => h) (Or.inl ⟨rfl, ?c7⟩) hH ?r7
          case c7 => (intro w' _; go_simp; (try with_reducible rfl))
          try simp only [Act.put, List.setIfInBounds_toArray, List.set_cons_zero, List.set_cons_succ]
          refine wpAnyH_take (i := 8) (oi := ⟨some 81, _, _, _, _, _⟩) (v := ?v8) rfl (by kernel_rfl) (by kernel_rfl) (by kernel_rfl) (fun _ _ _ h => h) (Or.inl ⟨rfl, ?c8⟩) hH ?r8
          case c8 => (intro w' hS; obtain ⟨x0, x1, x2, x3, x4, x5, x6⟩ := pk_cells hS.2.1; go_simp; (try with_reducible rfl))
          try simp only [Act.put, List.setIfInBounds_toArray, List.set_cons_zero, List.set_cons_succ]
          refine wpAnyH_take (i := 9) (oi := ⟨some 82, _, _, _, _, _⟩) (v := ?v9) rfl (by kernel_rfl) (by kernel_rfl) (by kernel_rfl) (fun _ _ _ h => h) (Or.inl ⟨rfl, ?c9⟩) hH ?r9
          case c9 => (intro w' _; go_simp; (try with_reducible rfl))
          try simp only [Act.put, List.setIfInBounds_toArray, List.set_cons_zero, List.set_cons_succ]
          refine wpAnyH_take (i := 10) (oi := ⟨some 83, _, _, _, _, _⟩) (v := ?v10) rfl (by kernel_rfl) (by kernel_rfl) (by kernel_rfl) (fun _ _ _ h => h) (Or.inl ⟨rfl, ?c10⟩) hH ?r10
          case c10 => (intro w' _; go_simp; (try with_reducible rfl))
          try simp only [Act.put, List.setIfInBounds_toArray, List.set_cons_zero, List.set_cons_succ]
          refine wpAnyH_take (i := 11) (oi := ⟨some 84, _, _, _, _, _⟩) (v := ?v11) rfl (by kernel_rfl) (by kernel_rfl) (by kernel_rfl) (fun _ _ _ h => h) (Or.inl ⟨rfl, ?c11⟩) hH ?r11
          case c11 => (intro w' _; go_simp; (try with_reducible rfl))
          try simp only [Act.put, List.setIfInBounds_toArray, List.set_cons_zero, List.set_cons_succ]
          refine wpAnyH_take (i := 12) (oi := ⟨some 85, _, _, _, _, _⟩) (v := ?v12) rfl (by kernel_rfl) (by kernel_rfl) (by kernel_rfl) (fun _ _ _ h => h) (Or.inl ⟨rfl, ?c12⟩) hH ?r12
          case c12 => (intro w' _; go_simp; (try with_reducible rfl))
          try simp only [Act.put, List.setIfInBounds_toArray, List.set_cons_zero, List.set_cons_succ]
          refine wpAnyH_take (i := 13) (oi := ⟨some 86, _, _, _, _, _⟩) (v := undef) rfl (by kernel_rfl) (by kernel_rfl) (by kernel_rfl) (fun _ _ _ h => h) (Or.inr ⟨rfl, rfl⟩) hH ?_
          try simp only [Act.put, List.setIfInBounds_toArray, List.set_cons_zero, List.set_cons_succ]
          refine wpAnyH_take (i := 14) (oi := ⟨some 87, _, _, _, _, _⟩) (v := ?v14) rfl (by kernel_rfl) (by kernel_rfl) (by kernel_rfl) (fun _ _ _ h => h) (Or.inl ⟨rfl, ?c14⟩) hH ?r14
          case c14 => (intro w' _; go_simp; (try with_reducible rfl))
          try simp only [Act.put, List.setIfInBounds_toArray, List.set_cons_zero, List.set_cons_succ]
          refine wpAnyH_take (i := 15) (oi := ⟨some 88, _, _, _, _, _⟩) (v := ?v15) rfl (by kernel_rfl) (by kernel_rfl) (by kernel_rfl) (fun _ _ _ h => h) (Or.inl ⟨rfl, ?c15⟩) hH ?r15
          case c15 => (intro w' _; go_simp; (try with_reducible rfl))
          try simp only [Act.put, List.setIfInBounds_toArray, List.set_cons_zero, List.set_cons_succ]
          refine wpAnyH_take (i := 16) (oi := ⟨some 89, _, _, _, _, _⟩) (v := ?v16) rfl (by kernel_rfl) (by kernel_rfl) (by kernel_rfl) (fun _ _ _ h => h) (Or.inl ⟨rfl, ?c16⟩) hH ?r16
          case c16 => (intro w' _; go_simp; (try with_reducible rfl))
          try simp only [Act.put, List.setIfInBounds_toArray, List.set_cons_zero, List.set_cons_succ]
          refine wpAnyH_take (i := 17) (oi := ⟨some 90, _, _, _, _, _⟩) (v := ?v17) rfl (by kernel_rfl) (by kernel_rfl) (by kernel_rfl) (fun _ _ _ h => h) (Or.inl ⟨rfl, ?c17⟩) hH ?r17
          case c17 => (intro w' _; go_simp; (try with_reducible rfl))
          try simp only [Act.put, List.setIfInBounds_toArray, List.set_cons_zero, List.set_cons_succ]
          refine wpAnyH_take (i := 18) (oi := ⟨some 4, _, _, _, _, _⟩) (v := ?v18) rfl (by kernel_rfl) (by kernel_rfl) (by kernel_rfl) (fun _ _ _ h => h) (Or.inl ⟨rfl, ?c18⟩) hH ?r18
          case c18 => (intro w' _; go_simp; (try with_reducible rfl))
          try simp only [Act.put, List.setIfInBounds_toArray, List.set_cons_zero, List.set_cons_succ]
          refine wpAnyH_done (by kernel_rfl) ?_ _
          go_wp2_with fail
          go_ret
          exact ⟨by simp, hH.2.2.2.2⟩
        · rw [decide_eq_false e1]
          by_cases e2 : sr = ds2 ∧ sp = dp2 ∧ ds = sr2 ∧ dp = sp2
          · rw [decide_eq_true e2]
            have EQ : ∀ w, (Op.equalIn 10000 29 (.agg #[.int .u32 a, .int .u32 b, .int .u16 p, .int .u16 q, .int .u8 pr]) (.agg #[.int .u32 a2, .int .u32 b2, .int .u16 p2, .int .u16 q2, .int .u8 pr2])).run Try.prog w = .ok true w := fun w => (ky_eq a b p q pr a2 b2 p2 q2 pr2 w).trans (by rw [decide_eq_true (by omega)])
            clear hi e0 e1 e2
            refine wp_region_held_drew (S := fun w' => SQ w g5 g7 (pkc pr sr ds sp dp f kd) (pkc pr2 sr2 ds2 sp2 dp2 f2 kd2) (kyc a b p q pr) (kyc a2 b2 p2 q2 pr2) w') (by kernel_rfl) (HQ.out.drew) (fun hH => ?_)
            refine wpAnyH_ready (rs := [0]) (by kernel_rfl) (by simp) (AllReadyH.cons rfl (fun K hK => ?_) (AllReadyH.nil))
            go_simp
            refine (C0.out _).mono ?_
            rintro e w8 ⟨rfl, hbp⟩
            refine hK.out _ _ (SQ.next hH hbp) (fun hH => ?_)
            clear hK K
            clear hbp
            try simp only [Act.put, List.setIfInBounds_toArray, List.set_cons_zero, List.set_cons_succ]
            refine wpAnyH_take (i := 1) (oi := ⟨some 74, _, _, _, _, _⟩) (v := ?v19) rfl (by kernel_rfl) (by kernel_rfl) (by kernel_rfl) (fun _ _ _ h => h) (Or.inl ⟨rfl, ?c19⟩) hH ?r19
            case c19 => (intro w' _; go_simp; (try with_reducible rfl))
            try simp only [Act.put, List.setIfInBounds_toArray, List.set_cons_zero, List.set_cons_succ]
            refine wpAnyH_take (i := 2) (oi := ⟨some 75, _, _, _, _, _⟩) (v := ?v20) rfl (by kernel_rfl) (by kernel_rfl) (by kernel_rfl) (fun _ _ _ h => h) (Or.inl ⟨rfl, ?c20⟩) hH ?r20
            case c20 => (intro w' hS; obtain ⟨x0, x1, x2, x3, x4⟩ := ky_cells hS.2.2.1; go_simp; (try with_reducible rfl))
            try simp only [Act.put, List.setIfInBounds_toArray, List.set_cons_zero, List.set_cons_succ]
            refine wpAnyH_take (i := 3) (oi := ⟨some 76, _, _, _, _, _⟩) (v := ?v21) rfl (by kernel_rfl) (by kernel_rfl) (by kernel_rfl) (fun _ _ _ h => h) (Or.inl ⟨rfl, ?c21⟩) hH ?r21
            case c21 => (intro w' hS; obtain ⟨x0, x1, x2, x3, x4⟩ := ky_cells hS.2.2.2.1; go_simp; (try with_reducible rfl))
            try simp only [Act.put, List.setIfInBounds_toArray, List.set_cons_zero, List.set_cons_succ]
            refine wpAnyH_take (i := 4) (oi := ⟨some 77, _, _, _, _, _⟩) (v := ?v22) rfl (by kernel_rfl) (by kernel_rfl) (by kernel_rfl) (fun _ _ _ h => h) (Or.inl ⟨rfl, ?c22⟩) hH ?r22
            case c22 => (intro w' _; go_simp; (try with_reducible rfl))
            try simp only [Act.put, List.setIfInBounds_toArray, List.set_cons_zero, List.set_cons_succ]
            refine wpAnyH_take (i := 5) (oi := ⟨some 78, _, _, _, _, _⟩) (v := ?v23) rfl (by kernel_rfl) (by kernel_rfl) (by kernel_rfl) (fun _ _ _ h => h) (Or.inl ⟨rfl, ?c23⟩) hH ?r23
            case c23 => (intro w' _; go_simp; (try with_reducible rfl))
            try simp only [Act.put, List.setIfInBounds_toArray, List.set_cons_zero, List.set_cons_succ]
            refine wpAnyH_take (i := 6) (oi := ⟨some 79, _, _, _, _, _⟩) (v := ?v24) rfl (by kernel_rfl) (by kernel_rfl) (by kernel_rfl) (fun _ _ _ h => h) (Or.inl ⟨rfl, ?c24⟩) hH ?r24
            case c24 => (intro w' hS; obtain ⟨x0, x1, x2, x3, x4, x5, x6⟩ := pk_cells hS.1; go_simp; (try with_reducible rfl))
            try simp only [Act.put, List.setIfInBounds_toArray, List.set_cons_zero, List.set_cons_succ]
            refine wpAnyH_take (i := 7) (oi := ⟨some 80, _, _, _, _, _⟩) (v := ?v25) rfl (by kernel_rfl) (by kernel_rfl) (by kernel_rfl) (fun _ _ _ h => h) (Or.inl ⟨rfl, ?c25⟩) hH ?r25
            case c25 => (intro w' _; go_simp; (try with_reducible rfl))
            try simp only [Act.put, List.setIfInBounds_toArray, List.set_cons_zero, List.set_cons_succ]
            refine wpAnyH_take (i := 8) (oi := ⟨some 81, _, _, _, _, _⟩) (v := ?v26) rfl (by kernel_rfl) (by kernel_rfl) (by kernel_rfl) (fun _ _ _ h => h) (Or.inl ⟨rfl, ?c26⟩) hH ?r26
            case c26 => (intro w' hS; obtain ⟨x0, x1, x2, x3, x4, x5, x6⟩ := pk_cells hS.2.1; go_simp; (try with_reducible rfl))
            try simp only [Act.put, List.setIfInBounds_toArray, List.set_cons_zero, List.set_cons_succ]
            refine wpAnyH_take (i := 9) (oi := ⟨some 82, _, _, _, _, _⟩) (v := ?v27) rfl (by kernel_rfl) (by kernel_rfl) (by kernel_rfl) (fun _ _ _ h => h) (Or.inl ⟨rfl, ?c27⟩) hH ?r27
            case c27 => (intro w' _; go_simp; (try with_reducible rfl))
            try simp only [Act.put, List.setIfInBounds_toArray, List.set_cons_zero, List.set_cons_succ]
            refine wpAnyH_take (i := 10) (oi := ⟨some 83, _, _, _, _, _⟩) (v := ?v28) rfl (by kernel_rfl) (by kernel_rfl) (by kernel_rfl) (fun _ _ _ h => h) (Or.inl ⟨rfl, ?c28⟩) hH ?r28
            case c28 => (intro w' _; go_simp; (try with_reducible rfl))
            try simp only [Act.put, List.setIfInBounds_toArray, List.set_cons_zero, List.set_cons_succ]
            refine wpAnyH_take (i := 11) (oi := ⟨some 84, _, _, _, _, _⟩) (v := ?v29) rfl (by kernel_rfl) (by kernel_rfl) (by kernel_rfl) (fun _ _ _ h => h) (Or.inl ⟨rfl, ?c29⟩) hH ?r29
            case c29 => (intro w' _; go_simp; (try with_reducible rfl))
            try simp only [Act.put, List.setIfInBounds_toArray, List.set_cons_zero, List.set_cons_succ]
            refine wpAnyH_take (i := 12) (oi := ⟨some 85, _, _, _, _, _⟩) (v := ?v30) rfl (by kernel_rfl) (by kernel_rfl) (by kernel_rfl) (fun _ _ _ h => h) (Or.inl ⟨rfl, ?c30⟩) hH ?r30
            case c30 => (intro w' _; go_simp; (try with_reducible rfl))
            try simp only [Act.put, List.setIfInBounds_toArray, List.set_cons_zero, List.set_cons_succ]
            refine wpAnyH_take (i := 13) (oi := ⟨some 86, _, _, _, _, _⟩) (v := ?v31) rfl (by kernel_rfl) (by kernel_rfl) (by kernel_rfl) (fun _ _ _ h => h) (Or.inl ⟨rfl, ?c31⟩) hH ?r31
            case c31 => (intro w' _; go_simp; (try with_reducible rfl))
            try simp only [Act.put, List.setIfInBounds_toArray, List.set_cons_zero, List.set_cons_succ]
            refine wpAnyH_take (i := 14) (oi := ⟨some 87, _, _, _, _, _⟩) (v := ?v32) rfl (by kernel_rfl) (by kernel_rfl) (by kernel_rfl) (fun _ _ _ h => h) (Or.inl ⟨rfl, ?c32⟩) hH ?r32
            case c32 => (intro w' _; go_simp; (try with_reducible rfl))
            try simp only [Act.put, List.setIfInBounds_toArray, List.set_cons_zero, List.set_cons_succ]
            refine wpAnyH_take (i := 15) (oi := ⟨some 88, _, _, _, _, _⟩) (v := ?v33) rfl (by kernel_rfl) (by kernel_rfl) (by kernel_rfl) (fun _ _ _ h => h) (Or.inl ⟨rfl, ?c33⟩) hH ?r33
            case c33 => (intro w' _; go_simp; (try with_reducible rfl))
            try simp only [Act.put, List.setIfInBounds_toArray, List.set_cons_zero, List.set_cons_succ]
            refine wpAnyH_take (i := 16) (oi := ⟨some 89, _, _, _, _, _⟩) (v := ?v34) rfl (by kernel_rfl) (by kernel_rfl) (by kernel_rfl) (fun _ _ _ h => h) (Or.inl ⟨rfl, ?c34⟩) hH ?r34
            case c34 => (intro w' _; go_simp; (try with_reducible rfl))
            try simp only [Act.put, List.setIfInBounds_toArray, List.set_cons_zero, List.set_cons_succ]
            refine wpAnyH_take (i := 17) (oi := ⟨some 90, _, _, _, _, _⟩) (v := ?v35) rfl (by kernel_rfl) (by kernel_rfl) (by kernel_rfl) (fun _ _ _ h => h) (Or.inl ⟨rfl, ?c35⟩) hH ?r35
            case c35 => (intro w' _; go_simp; (try with_reducible rfl))
            try simp only [Act.put, List.setIfInBounds_toArray, List.set_cons_zero, List.set_cons_succ]
            refine wpAnyH_take (i := 18) (oi := ⟨some 4, _, _, _, _, _⟩) (v := ?v36) rfl (by kernel_rfl) (by kernel_rfl) (by kernel_rfl) (fun _ _ _ h => h) (Or.inl ⟨rfl, ?c36⟩) hH ?r36
            case c36 => (intro w' _; go_simp; (try with_reducible rfl))
            try simp only [Act.put, List.setIfInBounds_toArray, List.set_cons_zero, List.set_cons_succ]
            refine wpAnyH_done (by kernel_rfl) ?_ _
            go_wp2_with fail
            go_ret
            exact ⟨by simp, hH.2.2.2.2⟩
          · rw [decide_eq_false e2]
            have EQ : ∀ w, (Op.equalIn 10000 29 (.agg #[.int .u32 a, .int .u32 b, .int .u16 p, .int .u16 q, .int .u8 pr]) (.agg #[.int .u32 a2, .int .u32 b2, .int .u16 p2, .int .u16 q2, .int .u8 pr2])).run Try.prog w = .ok false w := fun w => (ky_eq a b p q pr a2 b2 p2 q2 pr2 w).trans (by rw [decide_eq_false (by omega)])
            clear hi e0 e1 e2
            refine wp_region_held_drew (S := fun w' => SQ w g5 g7 (pkc pr sr ds sp dp f kd) (pkc pr2 sr2 ds2 sp2 dp2 f2 kd2) (kyc a b p q pr) (kyc a2 b2 p2 q2 pr2) w') (by kernel_rfl) (HQ.out.drew) (fun hH => ?_)
            refine wpAnyH_ready (rs := [0]) (by kernel_rfl) (by simp) (AllReadyH.cons rfl (fun K hK => ?_) (AllReadyH.nil))
            go_simp
            refine (C0.out _).mono ?_
            rintro e w8 ⟨rfl, hbp⟩
            refine hK.out _ _ (SQ.next hH hbp) (fun hH => ?_)
            clear hK K
            clear hbp
            try simp only [Act.put, List.setIfInBounds_toArray, List.set_cons_zero, List.set_cons_succ]
            refine wpAnyH_take (i := 1) (oi := ⟨some 74, _, _, _, _, _⟩) (v := ?v37) rfl (by kernel_rfl) (by kernel_rfl) (by kernel_rfl) (fun _ _ _ h => h) (Or.inl ⟨rfl, ?c37⟩) hH ?r37
            case c37 => (intro w' _; go_simp; (try with_reducible rfl))
            try simp only [Act.put, List.setIfInBounds_toArray, List.set_cons_zero, List.set_cons_succ]
            refine wpAnyH_take (i := 2) (oi := ⟨some 75, _, _, _, _, _⟩) (v := ?v38) rfl (by kernel_rfl) (by kernel_rfl) (by kernel_rfl) (fun _ _ _ h => h) (Or.inl ⟨rfl, ?c38⟩) hH ?r38
            case c38 => (intro w' hS; obtain ⟨x0, x1, x2, x3, x4⟩ := ky_cells hS.2.2.1; go_simp; (try with_reducible rfl))
            try simp only [Act.put, List.setIfInBounds_toArray, List.set_cons_zero, List.set_cons_succ]
            refine wpAnyH_take (i := 3) (oi := ⟨some 76, _, _, _, _, _⟩) (v := ?v39) rfl (by kernel_rfl) (by kernel_rfl) (by kernel_rfl) (fun _ _ _ h => h) (Or.inl ⟨rfl, ?c39⟩) hH ?r39
            case c39 => (intro w' hS; obtain ⟨x0, x1, x2, x3, x4⟩ := ky_cells hS.2.2.2.1; go_simp; (try with_reducible rfl))
            try simp only [Act.put, List.setIfInBounds_toArray, List.set_cons_zero, List.set_cons_succ]
            refine wpAnyH_take (i := 4) (oi := ⟨some 77, _, _, _, _, _⟩) (v := ?v40) rfl (by kernel_rfl) (by kernel_rfl) (by kernel_rfl) (fun _ _ _ h => h) (Or.inl ⟨rfl, ?c40⟩) hH ?r40
            case c40 => (intro w' _; go_simp; (try with_reducible rfl))
            try simp only [Act.put, List.setIfInBounds_toArray, List.set_cons_zero, List.set_cons_succ]
            refine wpAnyH_take (i := 5) (oi := ⟨some 78, _, _, _, _, _⟩) (v := ?v41) rfl (by kernel_rfl) (by kernel_rfl) (by kernel_rfl) (fun _ _ _ h => h) (Or.inl ⟨rfl, ?c41⟩) hH ?r41
            case c41 => (intro w' _; go_simp; (try with_reducible rfl))
            try simp only [Act.put, List.setIfInBounds_toArray, List.set_cons_zero, List.set_cons_succ]
            refine wpAnyH_take (i := 6) (oi := ⟨some 79, _, _, _, _, _⟩) (v := ?v42) rfl (by kernel_rfl) (by kernel_rfl) (by kernel_rfl) (fun _ _ _ h => h) (Or.inl ⟨rfl, ?c42⟩) hH ?r42
            case c42 => (intro w' hS; obtain ⟨x0, x1, x2, x3, x4, x5, x6⟩ := pk_cells hS.1; go_simp; (try with_reducible rfl))
            try simp only [Act.put, List.setIfInBounds_toArray, List.set_cons_zero, List.set_cons_succ]
            refine wpAnyH_take (i := 7) (oi := ⟨some 80, _, _, _, _, _⟩) (v := ?v43) rfl (by kernel_rfl) (by kernel_rfl) (by kernel_rfl) (fun _ _ _ h => h) (Or.inl ⟨rfl, ?c43⟩) hH ?r43
            case c43 => (intro w' _; go_simp; (try with_reducible rfl))
            try simp only [Act.put, List.setIfInBounds_toArray, List.set_cons_zero, List.set_cons_succ]
            refine wpAnyH_take (i := 8) (oi := ⟨some 81, _, _, _, _, _⟩) (v := ?v44) rfl (by kernel_rfl) (by kernel_rfl) (by kernel_rfl) (fun _ _ _ h => h) (Or.inl ⟨rfl, ?c44⟩) hH ?r44
            case c44 => (intro w' hS; obtain ⟨x0, x1, x2, x3, x4, x5, x6⟩ := pk_cells hS.2.1; go_simp; (try with_reducible rfl))
            try simp only [Act.put, List.setIfInBounds_toArray, List.set_cons_zero, List.set_cons_succ]
            refine wpAnyH_take (i := 9) (oi := ⟨some 82, _, _, _, _, _⟩) (v := ?v45) rfl (by kernel_rfl) (by kernel_rfl) (by kernel_rfl) (fun _ _ _ h => h) (Or.inl ⟨rfl, ?c45⟩) hH ?r45
            case c45 => (intro w' _; go_simp; (try with_reducible rfl))
            try simp only [Act.put, List.setIfInBounds_toArray, List.set_cons_zero, List.set_cons_succ]
            refine wpAnyH_take (i := 10) (oi := ⟨some 83, _, _, _, _, _⟩) (v := ?v46) rfl (by kernel_rfl) (by kernel_rfl) (by kernel_rfl) (fun _ _ _ h => h) (Or.inl ⟨rfl, ?c46⟩) hH ?r46
            case c46 => (intro w' _; go_simp; (try with_reducible rfl))
            try simp only [Act.put, List.setIfInBounds_toArray, List.set_cons_zero, List.set_cons_succ]
            refine wpAnyH_take (i := 11) (oi := ⟨some 84, _, _, _, _, _⟩) (v := ?v47) rfl (by kernel_rfl) (by kernel_rfl) (by kernel_rfl) (fun _ _ _ h => h) (Or.inl ⟨rfl, ?c47⟩) hH ?r47
            case c47 => (intro w' _; go_simp; (try with_reducible rfl))
            try simp only [Act.put, List.setIfInBounds_toArray, List.set_cons_zero, List.set_cons_succ]
            refine wpAnyH_take (i := 12) (oi := ⟨some 85, _, _, _, _, _⟩) (v := ?v48) rfl (by kernel_rfl) (by kernel_rfl) (by kernel_rfl) (fun _ _ _ h => h) (Or.inl ⟨rfl, ?c48⟩) hH ?r48
            case c48 => (intro w' _; go_simp; (try with_reducible rfl))
            try simp only [Act.put, List.setIfInBounds_toArray, List.set_cons_zero, List.set_cons_succ]
            refine wpAnyH_take (i := 13) (oi := ⟨some 86, _, _, _, _, _⟩) (v := ?v49) rfl (by kernel_rfl) (by kernel_rfl) (by kernel_rfl) (fun _ _ _ h => h) (Or.inl ⟨rfl, ?c49⟩) hH ?r49
            case c49 => (intro w' _; go_simp; (try with_reducible rfl))
            try simp only [Act.put, List.setIfInBounds_toArray, List.set_cons_zero, List.set_cons_succ]
            refine wpAnyH_take (i := 14) (oi := ⟨some 87, _, _, _, _, _⟩) (v := ?v50) rfl (by kernel_rfl) (by kernel_rfl) (by kernel_rfl) (fun _ _ _ h => h) (Or.inl ⟨rfl, ?c50⟩) hH ?r50
            case c50 => (intro w' _; go_simp; (try with_reducible rfl))
            try simp only [Act.put, List.setIfInBounds_toArray, List.set_cons_zero, List.set_cons_succ]
            refine wpAnyH_take (i := 15) (oi := ⟨some 88, _, _, _, _, _⟩) (v := ?v51) rfl (by kernel_rfl) (by kernel_rfl) (by kernel_rfl) (fun _ _ _ h => h) (Or.inl ⟨rfl, ?c51⟩) hH ?r51
            case c51 => (intro w' _; go_simp; (try with_reducible rfl))
            try simp only [Act.put, List.setIfInBounds_toArray, List.set_cons_zero, List.set_cons_succ]
            refine wpAnyH_take (i := 16) (oi := ⟨some 89, _, _, _, _, _⟩) (v := ?v52) rfl (by kernel_rfl) (by kernel_rfl) (by kernel_rfl) (fun _ _ _ h => h) (Or.inl ⟨rfl, ?c52⟩) hH ?r52
            case c52 => (intro w' _; go_simp; (try with_reducible rfl))
            try simp only [Act.put, List.setIfInBounds_toArray, List.set_cons_zero, List.set_cons_succ]
            refine wpAnyH_take (i := 17) (oi := ⟨some 90, _, _, _, _, _⟩) (v := ?v53) rfl (by kernel_rfl) (by kernel_rfl) (by kernel_rfl) (fun _ _ _ h => h) (Or.inl ⟨rfl, ?c53⟩) hH ?r53
            case c53 => (intro w' _; go_simp; (try with_reducible rfl))
            try simp only [Act.put, List.setIfInBounds_toArray, List.set_cons_zero, List.set_cons_succ]
            refine wpAnyH_take (i := 18) (oi := ⟨some 4, _, _, _, _, _⟩) (v := ?v54) rfl (by kernel_rfl) (by kernel_rfl) (by kernel_rfl) (fun _ _ _ h => h) (Or.inl ⟨rfl, ?c54⟩) hH ?r54
            case c54 => (intro w' _; go_simp; (try with_reducible rfl))
            try simp only [Act.put, List.setIfInBounds_toArray, List.set_cons_zero, List.set_cons_succ]
            refine wpAnyH_done (by kernel_rfl) ?_ _
            go_wp2_with fail
            go_ret
            exact ⟨by simp, hH.2.2.2.2⟩
      · have d0 : ((pr : Int) == (pr2 : Int)) = false := by simp; omega
        have EQ : ∀ w, (Op.equalIn 10000 29 (.agg #[.int .u32 a, .int .u32 b, .int .u16 p, .int .u16 q, .int .u8 pr]) (.agg #[.int .u32 a2, .int .u32 b2, .int .u16 p2, .int .u16 q2, .int .u8 pr2])).run Try.prog w = .ok false w := fun w => (ky_eq a b p q pr a2 b2 p2 q2 pr2 w).trans (by rw [decide_eq_false (by omega)])
        clear hi e0
        refine wp_region_held_drew (S := fun w' => SQ w g5 g7 (pkc pr sr ds sp dp f kd) (pkc pr2 sr2 ds2 sp2 dp2 f2 kd2) (kyc a b p q pr) (kyc a2 b2 p2 q2 pr2) w') (by kernel_rfl) (HQ.out.drew) (fun hH => ?_)
        refine wpAnyH_ready (rs := [0]) (by kernel_rfl) (by simp) (AllReadyH.cons rfl (fun K hK => ?_) (AllReadyH.nil))
        go_simp
        refine (C0.out _).mono ?_
        rintro e w8 ⟨rfl, hbp⟩
        refine hK.out _ _ (SQ.next hH hbp) (fun hH => ?_)
        clear hK K
        clear hbp
        try simp only [Act.put, List.setIfInBounds_toArray, List.set_cons_zero, List.set_cons_succ]
        refine wpAnyH_take (i := 1) (oi := ⟨some 74, _, _, _, _, _⟩) (v := ?v55) rfl (by kernel_rfl) (by kernel_rfl) (by kernel_rfl) (fun _ _ _ h => h) (Or.inl ⟨rfl, ?c55⟩) hH ?r55
        case c55 => (intro w' _; go_simp; (try with_reducible rfl))
        try simp only [Act.put, List.setIfInBounds_toArray, List.set_cons_zero, List.set_cons_succ]
        refine wpAnyH_take (i := 2) (oi := ⟨some 75, _, _, _, _, _⟩) (v := ?v56) rfl (by kernel_rfl) (by kernel_rfl) (by kernel_rfl) (fun _ _ _ h => h) (Or.inl ⟨rfl, ?c56⟩) hH ?r56
        case c56 => (intro w' hS; obtain ⟨x0, x1, x2, x3, x4⟩ := ky_cells hS.2.2.1; go_simp; (try with_reducible rfl))
        try simp only [Act.put, List.setIfInBounds_toArray, List.set_cons_zero, List.set_cons_succ]
        refine wpAnyH_take (i := 3) (oi := ⟨some 76, _, _, _, _, _⟩) (v := ?v57) rfl (by kernel_rfl) (by kernel_rfl) (by kernel_rfl) (fun _ _ _ h => h) (Or.inl ⟨rfl, ?c57⟩) hH ?r57
        case c57 => (intro w' hS; obtain ⟨x0, x1, x2, x3, x4⟩ := ky_cells hS.2.2.2.1; go_simp; (try with_reducible rfl))
        try simp only [Act.put, List.setIfInBounds_toArray, List.set_cons_zero, List.set_cons_succ]
        refine wpAnyH_take (i := 4) (oi := ⟨some 77, _, _, _, _, _⟩) (v := ?v58) rfl (by kernel_rfl) (by kernel_rfl) (by kernel_rfl) (fun _ _ _ h => h) (Or.inl ⟨rfl, ?c58⟩) hH ?r58
        case c58 => (intro w' _; go_simp; (try with_reducible rfl))
        try simp only [Act.put, List.setIfInBounds_toArray, List.set_cons_zero, List.set_cons_succ]
        refine wpAnyH_take (i := 5) (oi := ⟨some 78, _, _, _, _, _⟩) (v := ?v59) rfl (by kernel_rfl) (by kernel_rfl) (by kernel_rfl) (fun _ _ _ h => h) (Or.inl ⟨rfl, ?c59⟩) hH ?r59
        case c59 => (intro w' _; go_simp; (try with_reducible rfl))
        try simp only [Act.put, List.setIfInBounds_toArray, List.set_cons_zero, List.set_cons_succ]
        refine wpAnyH_take (i := 6) (oi := ⟨some 79, _, _, _, _, _⟩) (v := ?v60) rfl (by kernel_rfl) (by kernel_rfl) (by kernel_rfl) (fun _ _ _ h => h) (Or.inl ⟨rfl, ?c60⟩) hH ?r60
        case c60 => (intro w' hS; obtain ⟨x0, x1, x2, x3, x4, x5, x6⟩ := pk_cells hS.1; go_simp; (try with_reducible rfl))
        try simp only [Act.put, List.setIfInBounds_toArray, List.set_cons_zero, List.set_cons_succ]
        refine wpAnyH_take (i := 7) (oi := ⟨some 80, _, _, _, _, _⟩) (v := ?v61) rfl (by kernel_rfl) (by kernel_rfl) (by kernel_rfl) (fun _ _ _ h => h) (Or.inl ⟨rfl, ?c61⟩) hH ?r61
        case c61 => (intro w' _; go_simp; (try with_reducible rfl))
        try simp only [Act.put, List.setIfInBounds_toArray, List.set_cons_zero, List.set_cons_succ]
        refine wpAnyH_take (i := 8) (oi := ⟨some 81, _, _, _, _, _⟩) (v := ?v62) rfl (by kernel_rfl) (by kernel_rfl) (by kernel_rfl) (fun _ _ _ h => h) (Or.inl ⟨rfl, ?c62⟩) hH ?r62
        case c62 => (intro w' hS; obtain ⟨x0, x1, x2, x3, x4, x5, x6⟩ := pk_cells hS.2.1; go_simp; (try with_reducible rfl))
        try simp only [Act.put, List.setIfInBounds_toArray, List.set_cons_zero, List.set_cons_succ]
        refine wpAnyH_take (i := 9) (oi := ⟨some 82, _, _, _, _, _⟩) (v := ?v63) rfl (by kernel_rfl) (by kernel_rfl) (by kernel_rfl) (fun _ _ _ h => h) (Or.inl ⟨rfl, ?c63⟩) hH ?r63
        case c63 => (intro w' _; go_simp; (try with_reducible rfl))
        try simp only [Act.put, List.setIfInBounds_toArray, List.set_cons_zero, List.set_cons_succ]
        refine wpAnyH_take (i := 10) (oi := ⟨some 83, _, _, _, _, _⟩) (v := ?v64) rfl (by kernel_rfl) (by kernel_rfl) (by kernel_rfl) (fun _ _ _ h => h) (Or.inl ⟨rfl, ?c64⟩) hH ?r64
        case c64 => (intro w' _; go_simp; (try with_reducible rfl))
        try simp only [Act.put, List.setIfInBounds_toArray, List.set_cons_zero, List.set_cons_succ]
        refine wpAnyH_take (i := 11) (oi := ⟨some 84, _, _, _, _, _⟩) (v := undef) rfl (by kernel_rfl) (by kernel_rfl) (by kernel_rfl) (fun _ _ _ h => h) (Or.inr ⟨rfl, rfl⟩) hH ?_
        try simp only [Act.put, List.setIfInBounds_toArray, List.set_cons_zero, List.set_cons_succ]
        refine wpAnyH_take (i := 12) (oi := ⟨some 85, _, _, _, _, _⟩) (v := undef) rfl (by kernel_rfl) (by kernel_rfl) (by kernel_rfl) (fun _ _ _ h => h) (Or.inr ⟨rfl, rfl⟩) hH ?_
        try simp only [Act.put, List.setIfInBounds_toArray, List.set_cons_zero, List.set_cons_succ]
        refine wpAnyH_take (i := 13) (oi := ⟨some 86, _, _, _, _, _⟩) (v := undef) rfl (by kernel_rfl) (by kernel_rfl) (by kernel_rfl) (fun _ _ _ h => h) (Or.inr ⟨rfl, rfl⟩) hH ?_
        try simp only [Act.put, List.setIfInBounds_toArray, List.set_cons_zero, List.set_cons_succ]
        refine wpAnyH_take (i := 14) (oi := ⟨some 87, _, _, _, _, _⟩) (v := undef) rfl (by kernel_rfl) (by kernel_rfl) (by kernel_rfl) (fun _ _ _ h => h) (Or.inr ⟨rfl, rfl⟩) hH ?_
        try simp only [Act.put, List.setIfInBounds_toArray, List.set_cons_zero, List.set_cons_succ]
        refine wpAnyH_take (i := 15) (oi := ⟨some 88, _, _, _, _, _⟩) (v := ?v69) rfl (by kernel_rfl) (by kernel_rfl) (by kernel_rfl) (fun _ _ _ h => h) (Or.inl ⟨rfl, ?c69⟩) hH ?r69
        case c69 => (intro w' _; go_simp; (try with_reducible rfl))
        try simp only [Act.put, List.setIfInBounds_toArray, List.set_cons_zero, List.set_cons_succ]
        refine wpAnyH_take (i := 16) (oi := ⟨some 89, _, _, _, _, _⟩) (v := ?v70) rfl (by kernel_rfl) (by kernel_rfl) (by kernel_rfl) (fun _ _ _ h => h) (Or.inl ⟨rfl, ?c70⟩) hH ?r70
        case c70 => (intro w' _; go_simp; (try with_reducible rfl))
        try simp only [Act.put, List.setIfInBounds_toArray, List.set_cons_zero, List.set_cons_succ]
        refine wpAnyH_take (i := 17) (oi := ⟨some 90, _, _, _, _, _⟩) (v := ?v71) rfl (by kernel_rfl) (by kernel_rfl) (by kernel_rfl) (fun _ _ _ h => h) (Or.inl ⟨rfl, ?c71⟩) hH ?r71
        case c71 => (intro w' _; go_simp; (try with_reducible rfl))
        try simp only [Act.put, List.setIfInBounds_toArray, List.set_cons_zero, List.set_cons_succ]
        refine wpAnyH_take (i := 18) (oi := ⟨some 4, _, _, _, _, _⟩) (v := ?v72) rfl (by kernel_rfl) (by kernel_rfl) (by kernel_rfl) (fun _ _ _ h => h) (Or.inl ⟨rfl, ?c72⟩) hH ?r72
        case c72 => (intro w' _; go_simp; (try with_reducible rfl))
        try simp only [Act.put, List.setIfInBounds_toArray, List.set_cons_zero, List.set_cons_succ]
        refine wpAnyH_done (by kernel_rfl) ?_ _
        go_wp2_with fail
        go_ret
        exact ⟨by simp, hH.2.2.2.2⟩
end Ky
end Go.Proofs.Ytabmdkjkdgipbaa
