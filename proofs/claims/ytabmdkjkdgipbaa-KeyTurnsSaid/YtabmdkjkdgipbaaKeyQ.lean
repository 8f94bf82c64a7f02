/- Layer 10: the walk of KeyOf. -/
import Derived.Test.YtabmdkjkdgipbaaKeyP
set_option linter.unusedVariables false
set_option linter.unusedSimpArgs false
namespace Go.Proofs.Ytabmdkjkdgipbaa
open Go.ChangeShapes Go.WideShapes Go.ChangeAt Go.RowKit Go.Mtl
namespace Ky
open KeyM (lowB lessB hashN isPow)

theorem of_ex (g : Bool) (sr ds sp dp : Nat) : ∃ a b p q : Nat, (g = true ∧ ds = a ∧ sr = b ∧ dp = p ∧ sp = q ∨ g = false ∧ sr = a ∧ ds = b ∧ sp = p ∧ dp = q) := by
  cases g
  · exact ⟨sr, ds, sp, dp, Or.inr ⟨rfl, rfl, rfl, rfl, rfl⟩⟩
  · exact ⟨ds, sr, dp, sp, Or.inl ⟨rfl, rfl, rfl, rfl, rfl⟩⟩

set_option maxHeartbeats 4000000 in
theorem keyOf_walk (p0 p1 p2 p3 p4 p5 p6 : Int) (w : World)
    (hp : (0 ≤ p0 ∧ p0 ≤ 255) ∧ (0 ≤ p1 ∧ p1 ≤ 4294967295) ∧ (0 ≤ p2 ∧ p2 ≤ 4294967295) ∧ (0 ≤ p3 ∧ p3 ≤ 65535) ∧ (0 ≤ p4 ∧ p4 ≤ 65535) ∧ (0 ≤ p5 ∧ p5 ≤ 255) ∧ (0 ≤ p6 ∧ p6 ≤ 255)) :
    Calls Try.prog 3 #[.agg (pkc p0 p1 p2 p3 p4 p5 p6)] w fun e w' => e = .returned (.bool true) ∧ Below w.heap.size w w' := by
  obtain ⟨h0, h1, h2, h3, h4, h5, h6⟩ := hp
  obtain ⟨pr, rfl⟩ := Int.eq_ofNat_of_zero_le h0.1
  obtain ⟨sr, rfl⟩ := Int.eq_ofNat_of_zero_le h1.1
  obtain ⟨ds, rfl⟩ := Int.eq_ofNat_of_zero_le h2.1
  obtain ⟨sp, rfl⟩ := Int.eq_ofNat_of_zero_le h3.1
  obtain ⟨dp, rfl⟩ := Int.eq_ofNat_of_zero_le h4.1
  obtain ⟨f, rfl⟩ := Int.eq_ofNat_of_zero_le h5.1
  obtain ⟨kd, rfl⟩ := Int.eq_ofNat_of_zero_le h6.1
  obtain ⟨g, hg⟩ : ∃ g, lowB ds dp sr sp = g := ⟨_, rfl⟩
  obtain ⟨a, b, p, q, hk⟩ := of_ex g sr ds sp dp
  have C1 := Lib.hid (of_any pr sr ds sp dp f kd (by omega) (by omega) a b p q g hg hk)
  have C2 := Lib.hid (refOf_any pr sr ds sp dp f kd (by omega) (by omega) (by omega) (by omega) a b p q g hg hk)
  have C3 := Lib.hid awake_any
  have HP := Lib.hid (Blk.box w (pkc pr sr ds sp dp f kd) 25)
  have HB := Lib.hid ((Below.refl _ w).alloc (Nat.le_refl _) (.cells (pkc pr sr ds sp dp f kd) 25))
  clear hg hk h0 h1 h2 h3 h4 h5 h6
  obtain ⟨x0, x1, x2, x3, x4, x5, x6⟩ := pk_cells HP.out
  go_enter Try.func3, Try.ntmps3
  go_wp2_with fail
  refine (C1.out _).mono ?_
  rintro e w1 ⟨rfl, hb1⟩
  have HP1 := Lib.hid ((HP.out.next hb1).alloc (.cells (kyc a b p q pr) 29))
  have hbb := HB.out.trans (hb1.mono HB.out.size)
  have HB1 := Lib.hid (hbb.alloc hbb.size (.cells (kyc a b p q pr) 29))
  have HK1 := Lib.hid (Blk.box w1 (kyc a b p q pr) 29)
  clear HP HB hb1 hbb x0 x1 x2 x3 x4 x5 x6
  obtain ⟨x0, x1, x2, x3, x4, x5, x6⟩ := pk_cells HP1.out
  go_wp2_with fail
  refine (C2.out _).mono ?_
  rintro e w2 ⟨rfl, hb2⟩
  have hbb := HB1.out.trans (hb2.mono HB1.out.size)
  have HB2 := Lib.hid (hbb.alloc hbb.size (.cells (kyc a b p q pr) 29))
  have HK2 := Lib.hid ((HK1.out.next hb2).alloc (.cells (kyc a b p q pr) 29))
  have HL2 := Lib.hid (Blk.box w2 (kyc a b p q pr) 29)
  clear HP1 HB1 HK1 hb2 hbb x0 x1 x2 x3 x4 x5 x6
  go_wp2_with fail
  refine (C3.out _).mono ?_
  rintro e w3 ⟨rfl, hb3⟩
  have HB3 := Lib.hid (HB2.out.trans (hb3.mono HB2.out.size))
  have HK3 := Lib.hid (HK2.out.next hb3)
  have HL3 := Lib.hid (HL2.out.next hb3)
  clear HB2 HK2 HL2 hb3
  obtain ⟨x0, x1, x2, x3, x4⟩ := ky_cells HK3.out
  obtain ⟨y0, y1, y2, y3, y4⟩ := ky_cells HL3.out
  have EQ := ky_same a b p q pr
  go_wp2_with fail
  go_ret
  exact ⟨by simp, HB3.out⟩
end Ky
end Go.Proofs.Ytabmdkjkdgipbaa
