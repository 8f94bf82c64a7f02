/- Layer 10: contracts of the reference's Of, Hash, Stripe, Less. -/
import Derived.Test.YtabmdkjkdgipbaaKeyA
set_option linter.unusedVariables false
set_option linter.unusedSimpArgs false
namespace Go.Proofs.Ytabmdkjkdgipbaa
open Go.ChangeShapes Go.WideShapes Go.ChangeAt Go.RowKit Go.Mtl
namespace Ky
open KeyM (lowB byteN mixN mixS isPow hashN strN lessB)

theorem refEnd_x (a p x : Nat) (hx : a * 65536 + p = x) (ha : a < 4294967296) (hp : p < 65536) (W : World) :
    Calls Try.prog 19 #[.int .u32 (a : Int), .int .u16 (p : Int)] W fun e w' => e = .returned (.int .u64 (x : Int)) ∧ w' = W :=
  (refEnd_any a p ha hp W).mono fun _ _ ⟨h, hw⟩ => ⟨hx ▸ h, hw.symm⟩

set_option maxHeartbeats 2000000 in
theorem refOf_any (pr sr ds sp dp f kd : Nat) (hsr : sr < 4294967296) (hds : ds < 4294967296) (hsp : sp < 65536) (hdp : dp < 65536) (a b p q : Nat) (g : Bool) (hg : lowB ds dp sr sp = g) (hk : g = true ∧ ds = a ∧ sr = b ∧ dp = p ∧ sp = q ∨ g = false ∧ sr = a ∧ ds = b ∧ sp = p ∧ dp = q) (W : World) :
    Calls Try.prog 9 #[.agg (pkc pr sr ds sp dp f kd)] W fun e w' => e = .returned (.tuple #[.agg (kyc a b p q pr), .bool g]) ∧ Below W.heap.size W w' := by
  have HX := Lib.hid ((Blk.box W (pkc pr sr ds sp dp f kd) 25).alloc (.cells (kyc 0 0 0 0 0) 29))
  have HY := Lib.hid (Blk.box1 W (.cells (pkc pr sr ds sp dp f kd) 25) (kyc 0 0 0 0 0) 29)
  have HB := Lib.hid (((Below.refl _ W).alloc (Nat.le_refl _) (.cells (pkc pr sr ds sp dp f kd) 25)).alloc (by simp) (.cells (kyc 0 0 0 0 0) 29))
  obtain ⟨x0, x1, x2, x3, x4, x5, x6⟩ := pk_cells HX.out
  obtain ⟨f0, f1, f2, f3, f4, f5, f6⟩ := pk_frozen HX.out
  obtain ⟨x, hx⟩ : ∃ x, sr * 65536 + sp = x := ⟨_, rfl⟩
  obtain ⟨y, hy⟩ : ∃ y, ds * 65536 + dp = y := ⟨_, rfl⟩
  have E1 := Lib.hid (refEnd_x sr sp x hx hsr hsp)
  have E2 := Lib.hid (refEnd_x ds dp y hy hds hdp)
  rw [KeyM.low_num hdp hsp, hx, hy] at hg
  have hX : Hid ((IntKind.u64.wrap ((x : Int) / 65536) % 4294967296 = sr ∧ (x : Int) % 65536 = sp) ∧ IntKind.u64.wrap ((y : Int) / 65536) % 4294967296 = ds ∧ (y : Int) % 65536 = dp) := by
    show _ ∧ _
    rw [IntKind.wrap_u64, IntKind.wrap_u64]; omega
  clear hx hy
  rcases hk with ⟨rfl, rfl, rfl, rfl, rfl⟩ | ⟨rfl, rfl, rfl, rfl, rfl⟩
  · have d0 : y < x := by simpa using hg
    clear hg
    go_enter Try.func9, Try.ntmps9
    go_wp2
    go_quiet ((go_at_call 19; first | with_reducible exact Calls.quiet_of_same (E1.out _) | with_reducible exact Calls.quiet_of_same (E2.out _)))
    go_wp2
    obtain ⟨⟨n1, n2⟩, n3, n4⟩ := hX.out
    simp only [n1, n2, n3, n4]
    have HR := ky_store (HY.out.drewN nq) ds sr dp sp pr
    obtain ⟨r0, r1, r2, r3, r4⟩ := ky_cells HR
    exact bodyPost_ret (v := .tuple #[.agg (kyc ds sr dp sp pr), .bool true]) (by simp [results, Try.results9, go_sem, r0, r1, r2, r3, r4]) rfl ⟨rfl, below_storeK (HB.out.drews nq) (by simp) _ _ _ _ _⟩
  · have d0 : ¬ y < x := by simpa using hg
    clear hg
    go_enter Try.func9, Try.ntmps9
    go_wp2
    go_quiet ((go_at_call 19; first | with_reducible exact Calls.quiet_of_same (E1.out _) | with_reducible exact Calls.quiet_of_same (E2.out _)))
    go_wp2
    obtain ⟨⟨n1, n2⟩, n3, n4⟩ := hX.out
    simp only [n1, n2, n3, n4]
    have HR := ky_store (HY.out.drewN nq) sr ds sp dp pr
    obtain ⟨r0, r1, r2, r3, r4⟩ := ky_cells HR
    exact bodyPost_ret (v := .tuple #[.agg (kyc sr ds sp dp pr), .bool false]) (by simp [results, Try.results9, go_sem, r0, r1, r2, r3, r4]) rfl ⟨rfl, below_storeK (HB.out.drews nq) (by simp) _ _ _ _ _⟩

theorem byte_ref (n i : Nat) : ((n : Int) / 2 ^ (8 * i)).tmod 256 = (byteN n i : Int) := by
  rw [Int.tmod_eq_emod_of_nonneg (Int.ediv_nonneg (by omega) (Int.pow_nonneg (by decide))), byte_is]
theorem step_ref (h b : Nat) (hh : h < 4294967296) (hb : b < 256) : (IntKind.u64.wrap (bits .xor .u64 (h : Int) (b : Int) * 16777619)).tmod 4294967296 = (KeyM.step h b : Int) := by
  rw [u64_xor_nat h b (by omega) (by omega)]
  have hx : h ^^^ b < 2 ^ 32 := Nat.xor_lt_two_pow (by omega) (by omega)
  unfold KeyM.step
  generalize h ^^^ b = x at hx
  rw [IntKind.wrap_u64, Int.tmod_eq_emod_of_nonneg (by omega)]
  omega
/-- What the reference's Hash holds ahead of each endpoint. -/
def HashU (U : World) (h0 h1 h2 : Int) (t i : Value) (w' : World) : Prop := (i = .int .i64 0 ∧ t = .int .u64 h0 ∨ i = .int .i64 1 ∧ t = .int .u64 h1 ∨ i = .int .i64 2 ∧ t = .int .u64 h2) ∧ ∃ k, w' = U.drewN k
/-- .. and within one. -/
def HashV (e x : Nat) (t i : Value) : Prop := ∃ m g : Nat, m ≤ 6 ∧ g < 4294967296 ∧ i = .int .i64 (8 * (m : Int) - 8) ∧ t = .int .u64 (g : Int) ∧ Hid (mixN e m g = x)
set_option maxHeartbeats 2000000 in
theorem refHash_any (a b p q r : Nat) (ha : a < 4294967296) (hb : b < 4294967296) (hp : p < 65536) (hq : q < 65536) (hr : r < 256) (x : Nat) (hx : hashN a b p q r = x) (W : World) :
    Calls Try.prog 12 #[.agg (kyc a b p q r)] W fun e w' => e = .returned (.int .u32 (x : Int)) ∧ Below W.heap.size W w' := by
  have HX := Lib.hid (Blk.box W (kyc a b p q r) 29)
  have HB := Lib.hid ((Below.refl _ W).alloc (Nat.le_refl _) (.cells (kyc a b p q r) 29))
  obtain ⟨x0, x1, x2, x3, x4⟩ := ky_cells HX.out
  obtain ⟨m0, e0⟩ : ∃ m, KeyM.step 2166136261 r = m := ⟨_, rfl⟩
  obtain ⟨y1, c1⟩ : ∃ y, a * 65536 + p = y := ⟨_, rfl⟩
  obtain ⟨y2, c2⟩ : ∃ y, b * 65536 + q = y := ⟨_, rfl⟩
  obtain ⟨m1, e1⟩ : ∃ m, mixN y1 6 m0 = m := ⟨_, rfl⟩
  obtain ⟨m2, e2⟩ : ∃ m, mixN y2 6 m1 = m := ⟨_, rfl⟩
  have l0 : m0 < 4294967296 := e0 ▸ KeyM.step_lt _ _
  have l1 : m1 < 4294967296 := e1 ▸ KeyM.mixN_lt _ _ _ l0
  have l2 : m2 < 4294967296 := e2 ▸ KeyM.mixN_lt _ _ _ l1
  have hl1 : y1 < 281474976710656 := by omega
  have hl2 : y2 < 281474976710656 := by omega
  have HE := Lib.hid ((KeyM.hashN_six hp hq hr e0 (c1.symm ▸ e1) (c2.symm ▸ e2)).symm.trans hx)
  have HF : Hid ((IntKind.u64.wrap (bits .xor .u64 (2166136261 : Int) (r : Int) * 16777619)).tmod 4294967296 = (m0 : Int)) := e0 ▸ step_ref 2166136261 r (by omega) hr
  have E1 := Lib.hid (refEnd_x a p y1 c1 ha hp)
  have E2 := Lib.hid (refEnd_x b q y2 c2 hb hq)
  have H1 := Lib.hid e1
  have H2 := Lib.hid e2
  clear hx e0 e1 e2 c1 c2 ha hb hp hq
  go_enter Try.func12, Try.ntmps12
  go_wp2
  go_loopw [3, 5] (HashU (W.alloc (.cells (kyc a b p q r) 29)) m0 m1 m2) (fun _ i _ => 2 - (intOf i).toNat)
  case atStart => exact ⟨Or.inl ⟨rfl, by rw [HF.out]⟩, 0, rfl⟩
  case round =>
    obtain ⟨hrel, kw, rfl⟩ := hrel
    rcases hrel with ⟨rfl, rfl⟩ | ⟨rfl, rfl⟩ | ⟨rfl, rfl⟩
    · go_wp2
      obtain ⟨w1, hw1⟩ : ∃ w1, w1 = ((W.alloc (.cells (kyc a b p q r) 29)).drewN kw).drew := ⟨_, rfl⟩
      refine region_still_tail 9 (by kernel_rfl) (by kernel_rfl) w1 hw1 ?_
      have HX1 : Hid (Blk w1 W.heap.size (kyc a b p q r) 29) := hw1 ▸ Lib.hid (HX.out.drewN kw).drew
      have HW1 : Hid (w1 = (W.alloc (.cells (kyc a b p q r) 29)).drewN (kw + 1)) := hw1
      clear hw1 x0 x1 x2 x3 x4
      have z0 := HX1.out.cell 0 _ rfl
      have z1 := HX1.out.cell 2 _ rfl
      simp only [List.take_succ_cons, List.take_zero, List.drop_succ_cons, List.drop_zero]
      repeat still_step
      still_call (E1.out _)
      repeat still_step
      refine wpStill_nil ?_
      go_wp2
      go_loop [3, 7] (HashV y1 m1) (fun _ i => (intOf i + 8).toNat)
      case atStart => exact ⟨6, _, by omega, l0, rfl, rfl, H1⟩
      case round =>
        obtain ⟨m, g, hm, hg, rfl, rfl, hX⟩ := hrel
        rcases m with _ | m
        · go_wp2
          go_roundw
          case rel => exact ⟨Or.inr (Or.inl ⟨rfl, hX.out ▸ rfl⟩), _, HW1.out⟩
          case measure => simp [intOf]
        · rw [show 8 * (((m + 1 : Nat)) : Int) - 8 = 8 * (m : Int) by omega]
          have HS := Lib.hid (step_ref g (byteN y1 m) hg (KeyM.byteN_lt y1 m))
          have hX2 := Lib.hid ((KeyM.mixS_succ KeyM.step y1 m g).symm.trans hX.out)
          have hl := KeyM.step_lt g (byteN y1 m)
          clear hX
          generalize KeyM.step g (byteN y1 m) = z at HS hX2 hl
          go_wp2
          go_round
          case rel => exact ⟨m, z, by omega, hl, rfl, by rw [byte_ref, HS.out], hX2⟩
          case measure => simp [intOf]; omega
    · go_wp2
      obtain ⟨w1, hw1⟩ : ∃ w1, w1 = ((W.alloc (.cells (kyc a b p q r) 29)).drewN kw).drew := ⟨_, rfl⟩
      refine region_still_tail 9 (by kernel_rfl) (by kernel_rfl) w1 hw1 ?_
      have HX1 : Hid (Blk w1 W.heap.size (kyc a b p q r) 29) := hw1 ▸ Lib.hid (HX.out.drewN kw).drew
      have HW1 : Hid (w1 = (W.alloc (.cells (kyc a b p q r) 29)).drewN (kw + 1)) := hw1
      clear hw1 x0 x1 x2 x3 x4
      have z0 := HX1.out.cell 1 _ rfl
      have z1 := HX1.out.cell 3 _ rfl
      simp only [List.take_succ_cons, List.take_zero, List.drop_succ_cons, List.drop_zero]
      repeat still_step
      still_call (E2.out _)
      repeat still_step
      refine wpStill_nil ?_
      go_wp2
      go_loop [3, 7] (HashV y2 m2) (fun _ i => (intOf i + 8).toNat)
      case atStart => exact ⟨6, _, by omega, l1, rfl, rfl, H2⟩
      case round =>
        obtain ⟨m, g, hm, hg, rfl, rfl, hX⟩ := hrel
        rcases m with _ | m
        · go_wp2
          go_roundw
          case rel => exact ⟨Or.inr (Or.inr ⟨rfl, hX.out ▸ rfl⟩), _, HW1.out⟩
          case measure => simp [intOf]
        · rw [show 8 * (((m + 1 : Nat)) : Int) - 8 = 8 * (m : Int) by omega]
          have HS := Lib.hid (step_ref g (byteN y2 m) hg (KeyM.byteN_lt y2 m))
          have hX2 := Lib.hid ((KeyM.mixS_succ KeyM.step y2 m g).symm.trans hX.out)
          have hl := KeyM.step_lt g (byteN y2 m)
          clear hX
          generalize KeyM.step g (byteN y2 m) = z at HS hX2 hl
          go_wp2
          go_round
          case rel => exact ⟨m, z, by omega, hl, rfl, by rw [byte_ref, HS.out], hX2⟩
          case measure => simp [intOf]; omega
    · go_wp2
      go_ret
      exact ⟨by rw [← HE.out]; rfl, HB.out.drews kw⟩

/-- The reference's number of stripes, round by round. -/
def PowAt (e : Nat) (i : Value) : Prop := ∃ j : Nat, j ≤ e ∧ i = .int .i64 ((2 ^ j : Nat) : Int)
theorem pow_le {j e : Nat} (h : j ≤ e) : 1 ≤ 2 ^ j ∧ 2 ^ j ≤ 2 ^ e := ⟨Nat.one_le_two_pow, Nat.pow_le_pow_right (by decide) h⟩
theorem pow_big {j : Nat} (h1 : j ≤ 13) (h2 : ¬ j ≤ 12) : 2 ^ j = 8192 := by
  obtain rfl : j = 13 := by omega
  rfl
set_option maxHeartbeats 2000000 in
theorem refStripe_no (a b p q r : Nat) (s : Int) (hs : isPow s = false) (W : World) :
    Calls Try.prog 14 #[.agg (kyc a b p q r), .int .i64 s] W fun e w' => e = .returned (.int .i64 0) ∧ Below W.heap.size W w' := by
  have HB := Lib.hid ((Below.refl _ W).alloc (Nat.le_refl _) (.cells (kyc a b p q r) 29))
  have HS := Lib.hid hs
  clear hs
  go_enter Try.func14, Try.ntmps14
  go_wp2
  go_loop [5] (PowAt 13) (fun i => 8192 - (intOf i).toNat)
  case atStart => exact ⟨0, by omega, rfl⟩
  case round =>
    obtain ⟨j, hj, rfl⟩ := hrel
    by_cases hlt : j ≤ 12
    · have hp : 1 ≤ 2 ^ j ∧ 2 ^ j ≤ 4096 := pow_le hlt
      have hne : (((2 ^ j : Nat) : Int) == s) = false := by
        rw [beq_eq_false_iff_ne]
        intro he
        have := KeyM.pow_isPow ⟨j, by omega⟩
        rw [show (((2 ^ (⟨j, by omega⟩ : Fin 13).val : Nat)) : Int) = s from he, HS.out] at this
        cases this
      have HD := Lib.hid (show 2 ^ (j + 1) = 2 ^ j * 2 from Nat.pow_succ 2 j)
      generalize hN : 2 ^ j = N at hp hne HD ⊢
      clear hN
      go_wp2
      go_round
      case rel => exact ⟨j + 1, by omega, by rw [HD.out]; go_num⟩
      case measure => simp [intOf]; omega
    · have hp : 2 ^ j = 8192 := pow_big hj hlt
      rw [hp]
      clear hp
      go_wp2
      go_ret
      exact ⟨rfl, HB.out⟩
set_option maxHeartbeats 2000000 in
theorem refStripe_yes (a b p q r : Nat) (s : Int) (hs : isPow s = true) (ha : a < 4294967296) (hb : b < 4294967296) (hp : p < 65536) (hq : q < 65536) (hr : r < 256) (x : Nat) (hx : hashN a b p q r = x) (W : World) :
    Calls Try.prog 14 #[.agg (kyc a b p q r), .int .i64 s] W fun e w' => e = .returned (.int .i64 ((x : Int) % s)) ∧ Below W.heap.size W w' := by
  have HX := Lib.hid (Blk.box W (kyc a b p q r) 29)
  have HB := Lib.hid ((Below.refl _ W).alloc (Nat.le_refl _) (.cells (kyc a b p q r) 29))
  obtain ⟨x0, x1, x2, x3, x4⟩ := ky_cells HX.out
  obtain ⟨e, he, rfl⟩ := KeyM.isPow_exp hs
  have hxl : x < 4294967296 := hx ▸ KeyM.hashN_lt a b p q r
  have HH := Lib.hid (refHash_any a b p q r ha hb hp hq hr x hx)
  clear hs hx
  have hE : 1 ≤ 2 ^ e ∧ 2 ^ e ≤ 4096 := pow_le he
  have HF : Hid ((x : Int).tmod ((2 ^ e : Nat) : Int) = (x : Int) % ((2 ^ e : Nat) : Int)) := Int.tmod_eq_emod_of_nonneg (by omega)
  have HL : Hid (∀ j, j ≤ e → 1 ≤ 2 ^ j ∧ 2 ^ j ≤ 2 ^ e) := fun j h => pow_le h
  have HI : Hid (∀ j, j ≤ e → 2 ^ j ≠ 2 ^ e → j + 1 ≤ e) := fun j h hn => by
    rcases Nat.lt_or_ge j e with h1 | h1
    · exact h1
    · exact absurd (by rw [Nat.le_antisymm h h1]) hn
  have HQ := Lib.hid (show PowAt e = PowAt e from rfl)
  generalize hM : 2 ^ e = M at hE HF HL HI ⊢
  clear hM
  go_enter Try.func14, Try.ntmps14
  go_wp2_with fail
  go_loop [5] (PowAt e) (fun i => 8192 - (intOf i).toNat)
  case atStart => exact ⟨0, by omega, rfl⟩
  case round =>
    obtain ⟨j, hj, rfl⟩ := hrel
    have hp := HL.out j hj
    by_cases hlt : 2 ^ j = M
    · rw [hlt]
      clear hlt hp HL HI
      go_wp2_with fail
      refine (HH.out _).mono ?_
      rintro e w1 ⟨rfl, hb1⟩
      have HB1 := Lib.hid (HB.out.trans (hb1.mono HB.out.size))
      clear hb1 HX HB x0 x1 x2 x3 x4
      go_wp2_with fail
      go_ret
      exact ⟨ret_int HF.out, HB1.out⟩
    · have hj1 := HI.out j hj hlt
      have HD := Lib.hid (show 2 ^ (j + 1) = 2 ^ j * 2 from Nat.pow_succ 2 j)
      have hne : (((2 ^ j : Nat) : Int) == (M : Int)) = false := by
        rw [beq_eq_false_iff_ne]; intro h; exact hlt (by omega)
      clear hlt HL HI
      generalize hN : 2 ^ j = N at hp hne HD ⊢
      clear hN
      go_wp2_with fail
      go_round
      case rel => exact ⟨j + 1, by omega, by rw [HD.out]; go_num⟩
      case measure => simp [intOf]; omega

set_option maxHeartbeats 2000000 in
theorem refLess_any (a b p q r a2 b2 p2 q2 r2 : Nat) (ha : a < 4294967296) (hb : b < 4294967296) (hp : p < 65536) (hq : q < 65536) (ha2 : a2 < 4294967296) (hb2 : b2 < 4294967296) (hp2 : p2 < 65536) (hq2 : q2 < 65536) (g : Bool) (hg : lessB a b p q r a2 b2 p2 q2 r2 = g) (W : World) :
    Calls Try.prog 16 #[.agg (kyc a b p q r), .agg (kyc a2 b2 p2 q2 r2)] W fun e w' => e = .returned (.bool g) ∧ Below W.heap.size W w' := by
  have HX0 := Lib.hid ((Blk.box W (kyc a b p q r) 29).alloc (.cells (kyc a2 b2 p2 q2 r2) 29))
  have HY0 := Lib.hid (Blk.box1 W (.cells (kyc a b p q r) 29) (kyc a2 b2 p2 q2 r2) 29)
  have HB0 := Lib.hid (((Below.refl _ W).alloc (Nat.le_refl _) (.cells (kyc a b p q r) 29)).alloc (by simp) (.cells (kyc a2 b2 p2 q2 r2) 29))
  obtain ⟨x0, x1, x2, x3, x4⟩ := ky_cells HX0.out
  obtain ⟨y0, y1, y2, y3, y4⟩ := ky_cells HY0.out
  obtain ⟨k1, c1⟩ : ∃ y, a * 65536 + p = y := ⟨_, rfl⟩
  obtain ⟨k2, c2⟩ : ∃ y, a2 * 65536 + p2 = y := ⟨_, rfl⟩
  obtain ⟨k3, c3⟩ : ∃ y, b * 65536 + q = y := ⟨_, rfl⟩
  obtain ⟨k4, c4⟩ : ∃ y, b2 * 65536 + q2 = y := ⟨_, rfl⟩
  have E1 := Lib.hid (refEnd_x a p k1 c1 ha hp)
  have E2 := Lib.hid (refEnd_x a2 p2 k2 c2 ha2 hp2)
  have E3 := Lib.hid (refEnd_x b q k3 c3 hb hq)
  have E4 := Lib.hid (refEnd_x b2 q2 k4 c4 hb2 hq2)
  unfold lessB at hg
  rw [KeyM.low_num hp hp2, KeyM.low_num hq hq2, c1, c2, c3, c4] at hg
  by_cases h1 : r = r2
  · rw [if_neg (by omega)] at hg
    have d0 : ((r : Int) != r2) = false := by simp; omega
    have he : (a ≠ a2 ∨ p ≠ p2) ↔ k1 ≠ k2 := by omega
    by_cases h2 : k1 = k2
    · rw [if_neg (by rw [he]; omega)] at hg
      have d1 : ((k1 : Int) != k2) = false := by simp; omega
      have HG := Lib.hid hg
      clear hg h1 h2 he c1 c2 c3 c4 ha hb hp hq ha2 hb2 hp2 hq2
      go_enter Try.func16, Try.ntmps16
      go_wp2
      obtain ⟨w1, hw1⟩ : ∃ u, u = ((W.alloc (.cells (kyc a b p q r) 29)).alloc (.cells (kyc a2 b2 p2 q2 r2) 29)).drew := ⟨_, rfl⟩
      refine region_still_tail 14 (by kernel_rfl) (by kernel_rfl) w1 hw1 ?_
      have HX1 : Hid (Blk w1 W.heap.size (kyc a b p q r) 29) := hw1 ▸ Lib.hid HX0.out.drew
      have HY1 : Hid (Blk w1 (W.heap.size + 1) (kyc a2 b2 p2 q2 r2) 29) := hw1 ▸ Lib.hid HY0.out.drew
      have HB1 : Hid (Below W.heap.size W w1) := hw1 ▸ Lib.hid HB0.out.drew
      clear hw1
      have z0 := HX1.out.cell 0 _ rfl
      have z1 := HX1.out.cell 2 _ rfl
      have z2 := HY1.out.cell 0 _ rfl
      have z3 := HY1.out.cell 2 _ rfl
      simp only [List.take_succ_cons, List.take_zero, List.drop_succ_cons, List.drop_zero]
      repeat still_step
      still_call (E1.out _)
      repeat still_step
      still_call (E2.out _)
      repeat still_step
      refine wpStill_nil ?_
      clear z0 z1 z2 z3
      go_wp2
      clear x0 x1 x2 x3 x4 y0 y1 y2 y3 y4
      obtain ⟨w2, hw2⟩ : ∃ u, u = w1.drew := ⟨_, rfl⟩
      refine region_still_tail 15 (by kernel_rfl) (by kernel_rfl) w2 hw2 ?_
      have HX2 : Hid (Blk w2 W.heap.size (kyc a b p q r) 29) := hw2 ▸ Lib.hid HX1.out.drew
      have HY2 : Hid (Blk w2 (W.heap.size + 1) (kyc a2 b2 p2 q2 r2) 29) := hw2 ▸ Lib.hid HY1.out.drew
      have HB2 : Hid (Below W.heap.size W w2) := hw2 ▸ Lib.hid HB1.out.drew
      clear hw2
      have z0 := HX2.out.cell 1 _ rfl
      have z1 := HX2.out.cell 3 _ rfl
      have z2 := HY2.out.cell 1 _ rfl
      have z3 := HY2.out.cell 3 _ rfl
      simp only [List.take_succ_cons, List.take_zero, List.drop_succ_cons, List.drop_zero]
      repeat still_step
      still_call (E3.out _)
      repeat still_step
      still_call (E4.out _)
      repeat still_step
      refine wpStill_nil ?_
      clear z0 z1 z2 z3
      go_wp2
      go_ret
      exact ⟨by rw [← HG.out]; rfl, HB2.out⟩
    · rw [if_pos (by rw [he]; omega)] at hg
      have d1 : ((k1 : Int) != k2) = true := by simp; omega
      have HG := Lib.hid hg
      clear hg h1 h2 he c1 c2 c3 c4 ha hb hp hq ha2 hb2 hp2 hq2
      go_enter Try.func16, Try.ntmps16
      go_wp2
      obtain ⟨w1, hw1⟩ : ∃ u, u = ((W.alloc (.cells (kyc a b p q r) 29)).alloc (.cells (kyc a2 b2 p2 q2 r2) 29)).drew := ⟨_, rfl⟩
      refine region_still_tail 14 (by kernel_rfl) (by kernel_rfl) w1 hw1 ?_
      have HX1 : Hid (Blk w1 W.heap.size (kyc a b p q r) 29) := hw1 ▸ Lib.hid HX0.out.drew
      have HY1 : Hid (Blk w1 (W.heap.size + 1) (kyc a2 b2 p2 q2 r2) 29) := hw1 ▸ Lib.hid HY0.out.drew
      have HB1 : Hid (Below W.heap.size W w1) := hw1 ▸ Lib.hid HB0.out.drew
      clear hw1
      have z0 := HX1.out.cell 0 _ rfl
      have z1 := HX1.out.cell 2 _ rfl
      have z2 := HY1.out.cell 0 _ rfl
      have z3 := HY1.out.cell 2 _ rfl
      simp only [List.take_succ_cons, List.take_zero, List.drop_succ_cons, List.drop_zero]
      repeat still_step
      still_call (E1.out _)
      repeat still_step
      still_call (E2.out _)
      repeat still_step
      refine wpStill_nil ?_
      clear z0 z1 z2 z3
      go_wp2
      go_ret
      exact ⟨by rw [← HG.out]; rfl, HB1.out⟩
  · rw [if_pos h1] at hg
    have d0 : ((r : Int) != r2) = true := by simp; omega
    have HG := Lib.hid hg
    clear hg h1 c1 c2 c3 c4 ha hb hp hq ha2 hb2 hp2 hq2
    go_enter Try.func16, Try.ntmps16
    go_wp2
    go_ret
    exact ⟨by rw [← HG.out]; rfl, HB0.out⟩
end Ky
end Go.Proofs.Ytabmdkjkdgipbaa
