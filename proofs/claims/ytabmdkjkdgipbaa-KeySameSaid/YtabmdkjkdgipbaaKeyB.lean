/- Layer 10: contracts of Turn, Of, Hash, Stripe, Less. -/
import Derived.Test.YtabmdkjkdgipbaaKeyA
set_option linter.unusedVariables false
set_option linter.unusedSimpArgs false
namespace Go.Proofs.Ytabmdkjkdgipbaa
open Go.ChangeShapes Go.WideShapes Go.ChangeAt Go.RowKit Go.Mtl
namespace Ky
open KeyM (lowB byteN mixN mixS isPow hashN strN lessB)

/-- The kind in the other direction. -/
def tkP (pr kd : Nat) : Nat := if pr = 1 then tkN kd else kd
set_option maxHeartbeats 2000000 in
theorem turn_any (pr sr ds sp dp f kd x : Nat) (hx : tkP pr kd = x) (W : World) :
    Calls Try.prog 17 #[.agg (pkc pr sr ds sp dp f kd)] W fun e w' => e = .returned (.agg (pkc pr ds sr dp sp f x)) ∧ Below W.heap.size W w' := by
  have HX := Lib.hid ((Blk.box W (pkc pr sr ds sp dp f kd) 25).alloc (.cells (pkc 0 0 0 0 0 0 0) 25))
  have HY := Lib.hid (Blk.box1 W (.cells (pkc pr sr ds sp dp f kd) 25) (pkc 0 0 0 0 0 0 0) 25)
  obtain ⟨x0, x1, x2, x3, x4, x5, x6⟩ := pk_cells HX.out
  obtain ⟨f0, f1, f2, f3, f4, f5, f6⟩ := pk_frozen HX.out
  obtain ⟨g0, g1, g2, g3, g4, g5, g6⟩ := pk_frozen HY.out
  obtain ⟨y0, y1, y2, y3, y4, y5, y6⟩ := pk_cells HY.out
  unfold tkP at hx
  by_cases h1 : pr = 1
  · rw [if_pos h1] at hx
    subst h1
    have HK := Lib.hid (turnKind_any kd x hx)
    clear hx
    go_enter Try.func17, Try.ntmps17
    go_wp2_with fail
    refine (HK.out _).mono ?_
    rintro e w' ⟨rfl, rfl⟩
    go_wp2_with fail
    have HR := Blk.box1 W (.cells (pkc 1 ds sr dp sp f x) 25) (pkc 1 ds sr dp sp f x) 25
    obtain ⟨r0, r1, r2, r3, r4, r5, r6⟩ := pk_cells HR
    exact bodyPost_ret (v := .agg (pkc 1 ds sr dp sp f x)) (by simp [results, Try.results17, go_sem, r0, r1, r2, r3, r4, r5, r6]) rfl ⟨rfl, ((Below.refl _ W).alloc (Nat.le_refl _) _).alloc (by simp) _⟩
  · rw [if_neg h1] at hx
    subst hx
    have d1 : ((pr : Int) == 1) = false := by simp; omega
    clear h1
    go_enter Try.func17, Try.ntmps17
    go_wp2_with fail
    have HR := Blk.box1 W (.cells (pkc pr ds sr dp sp f kd) 25) (pkc pr ds sr dp sp f kd) 25
    obtain ⟨r0, r1, r2, r3, r4, r5, r6⟩ := pk_cells HR
    exact bodyPost_ret (v := .agg (pkc pr ds sr dp sp f kd)) (by simp [results, Try.results17, go_sem, r0, r1, r2, r3, r4, r5, r6]) rfl ⟨rfl, ((Below.refl _ W).alloc (Nat.le_refl _) _).alloc (by simp) _⟩

/-- A packet's key: the endpoints in order. -/
def ofK (pr sr ds sp dp : Nat) : Array Value := if lowB ds dp sr sp then kyc ds sr dp sp pr else kyc sr ds sp dp pr
set_option maxHeartbeats 2000000 in
theorem of_any (pr sr ds sp dp f kd : Nat) (hsp : sp < 65536) (hdp : dp < 65536) (a b p q : Nat) (g : Bool) (hg : lowB ds dp sr sp = g) (hk : g = true ∧ ds = a ∧ sr = b ∧ dp = p ∧ sp = q ∨ g = false ∧ sr = a ∧ ds = b ∧ sp = p ∧ dp = q) (W : World) :
    Calls Try.prog 8 #[.agg (pkc pr sr ds sp dp f kd)] W fun e w' => e = .returned (.tuple #[.agg (kyc a b p q pr), .bool g]) ∧ Below W.heap.size W w' := by
  have HX := Lib.hid ((Blk.box W (pkc pr sr ds sp dp f kd) 25).alloc (.cells (kyc 0 0 0 0 0) 29))
  have HY := Lib.hid (Blk.box1 W (.cells (pkc pr sr ds sp dp f kd) 25) (kyc 0 0 0 0 0) 29)
  have HB := Lib.hid (((Below.refl _ W).alloc (Nat.le_refl _) (.cells (pkc pr sr ds sp dp f kd) 25)).alloc (by simp) (.cells (kyc 0 0 0 0 0) 29))
  obtain ⟨x0, x1, x2, x3, x4, x5, x6⟩ := pk_cells HX.out
  obtain ⟨f0, f1, f2, f3, f4, f5, f6⟩ := pk_frozen HX.out
  have HL := Lib.hid (lower_any ds dp sr sp g hg)
  clear hg
  go_enter Try.func8, Try.ntmps8
  go_wp2_with fail
  refine (HL.out _).mono ?_
  rintro e w1 ⟨rfl, hb1⟩
  have HX1 := Lib.hid (HX.out.next hb1)
  have HY1 := Lib.hid (HY.out.next hb1)
  have HB1 := Lib.hid (HB.out.trans (hb1.mono HB.out.size))
  clear hb1 HX HY HB HL x0 x1 x2 x3 x4 x5 x6 f0 f1 f2 f3 f4 f5 f6
  obtain ⟨x0, x1, x2, x3, x4, x5, x6⟩ := pk_cells HX1.out
  obtain ⟨f0, f1, f2, f3, f4, f5, f6⟩ := pk_frozen HX1.out
  obtain ⟨y0, y1, y2, y3, y4⟩ := ky_cells HY1.out
  obtain ⟨g0, g1, g2, g3, g4⟩ := ky_frozen HY1.out
  rcases hk with ⟨rfl, rfl, rfl, rfl, rfl⟩ | ⟨rfl, rfl, rfl, rfl, rfl⟩
  · obtain ⟨z, hz⟩ : ∃ z, tkP pr kd = z := ⟨_, rfl⟩
    have HT := Lib.hid (turn_any pr sr ds sp dp f kd z hz)
    clear hz
    go_wp2_with fail
    refine (HT.out _).mono ?_
    rintro e w2 ⟨rfl, hb2⟩
    have HX2 := Lib.hid (HX1.out.next hb2)
    have HY2 := Lib.hid (HY1.out.next hb2)
    have HB2 := Lib.hid (HB1.out.trans (hb2.mono HB1.out.size))
    clear hb2 HX1 HY1 HB1 HT x0 x1 x2 x3 x4 x5 x6 f0 f1 f2 f3 f4 f5 f6 y0 y1 y2 y3 y4 g0 g1 g2 g3 g4
    obtain ⟨x0, x1, x2, x3, x4, x5, x6⟩ := pk_cells HX2.out
    obtain ⟨f0, f1, f2, f3, f4, f5, f6⟩ := pk_frozen HX2.out
    obtain ⟨y0, y1, y2, y3, y4⟩ := ky_cells HY2.out
    obtain ⟨g0, g1, g2, g3, g4⟩ := ky_frozen HY2.out
    go_wp2_with fail
    have HR := ky_store (storeP_other HY2.out (k := W.heap.size) (by simp) pr ds sr dp sp f z) ds sr dp sp pr
    obtain ⟨r0, r1, r2, r3, r4⟩ := ky_cells HR
    exact bodyPost_ret (v := .tuple #[.agg (kyc ds sr dp sp pr), .bool true]) (by simp [results, Try.results8, go_sem, r0, r1, r2, r3, r4]) rfl ⟨rfl, below_storeK (below_storeP HB2.out (Nat.le_refl _) _ _ _ _ _ _ _) (by simp) _ _ _ _ _⟩
  · go_wp2_with fail
    have HR := ky_store HY1.out sr ds sp dp pr
    obtain ⟨r0, r1, r2, r3, r4⟩ := ky_cells HR
    exact bodyPost_ret (v := .tuple #[.agg (kyc sr ds sp dp pr), .bool false]) (by simp [results, Try.results8, go_sem, r0, r1, r2, r3, r4]) rfl ⟨rfl, below_storeK HB1.out (by simp) _ _ _ _ _⟩

theorem mix_int (h n k : Int) (x h' n' k' : Nat) (e1 : h = (h' : Int)) (e2 : n = (n' : Int)) (e3 : k = (k' : Int)) (hh : h' < 4294967296) (hn : n' < 4294967296) (hk : k' ≤ 4) (hx : mixN n' k' h' = x) (W : World) :
    Calls Try.prog 20 #[.int .u32 h, .int .u32 n, .int .i64 k] W fun e w' => e = .returned (.int .u32 (x : Int)) ∧ W = w' := by
  subst e1 e2 e3
  exact mix_any h' n' k' hh hn hk x hx W

/-- What Hash holds ahead of each endpoint. -/
def HashR (h0 h1 h2 : Int) (t i : Value) : Prop := i = .int .i64 0 ∧ t = .int .u32 h0 ∨ i = .int .i64 1 ∧ t = .int .u32 h1 ∨ i = .int .i64 2 ∧ t = .int .u32 h2
set_option maxHeartbeats 2000000 in
theorem hash_any (a b p q r : Nat) (ha : a < 4294967296) (hb : b < 4294967296) (hp : p < 65536) (hq : q < 65536) (hr : r < 256) (x : Nat) (hx : hashN a b p q r = x) (W : World) :
    Calls Try.prog 11 #[.agg (kyc a b p q r)] W fun e w' => e = .returned (.int .u32 (x : Int)) ∧ Below W.heap.size W w' := by
  have HX := Lib.hid (Blk.box W (kyc a b p q r) 29)
  have HB := Lib.hid ((Below.refl _ W).alloc (Nat.le_refl _) (.cells (kyc a b p q r) 29))
  obtain ⟨x0, x1, x2, x3, x4⟩ := ky_cells HX.out
  obtain ⟨m0, e0⟩ : ∃ m, mixN r 1 2166136261 = m := ⟨_, rfl⟩
  obtain ⟨m1, e1⟩ : ∃ m, mixN a 4 m0 = m := ⟨_, rfl⟩
  obtain ⟨m2, e2⟩ : ∃ m, mixN p 2 m1 = m := ⟨_, rfl⟩
  obtain ⟨m3, e3⟩ : ∃ m, mixN b 4 m2 = m := ⟨_, rfl⟩
  obtain ⟨m4, e4⟩ : ∃ m, mixN q 2 m3 = m := ⟨_, rfl⟩
  have l0 : m0 < 4294967296 := e0 ▸ KeyM.mixN_lt _ _ _ (by decide)
  have l1 : m1 < 4294967296 := e1 ▸ KeyM.mixN_lt _ _ _ l0
  have l2 : m2 < 4294967296 := e2 ▸ KeyM.mixN_lt _ _ _ l1
  have l3 : m3 < 4294967296 := e3 ▸ KeyM.mixN_lt _ _ _ l2
  have l4 : m4 < 4294967296 := e4 ▸ KeyM.mixN_lt _ _ _ l3
  have HE := Lib.hid ((KeyM.hashN_steps e0 e1 e2 e3 e4).symm.trans hx)
  have M0 := Lib.hid (mix_int 2166136261 r 1 m0 2166136261 r 1 rfl rfl rfl (by omega) (by omega) (by omega) e0)
  have M1 := Lib.hid (mix_int m0 a 4 m1 m0 a 4 rfl rfl rfl l0 ha (by omega) e1)
  have M2 := Lib.hid (mix_int m1 p 2 m2 m1 p 2 rfl rfl rfl l1 (by omega) (by omega) e2)
  have M3 := Lib.hid (mix_int m2 b 4 m3 m2 b 4 rfl rfl rfl l2 hb (by omega) e3)
  have M4 := Lib.hid (mix_int m3 q 2 m4 m3 q 2 rfl rfl rfl l3 (by omega) (by omega) e4)
  clear hx e0 e1 e2 e3 e4 l0 l1 l2 l3 l4
  go_enter Try.func11, Try.ntmps11
  go_wp2_with fail
  refine (M0.out _).mono ?_
  rintro e w' ⟨rfl, rfl⟩
  go_wp2_with fail
  go_loop [3, 9] (HashR m0 m2 m4) (fun _ i => 2 - (intOf i).toNat)
  case atStart => exact Or.inl ⟨rfl, rfl⟩
  case round =>
    rcases hrel with ⟨rfl, rfl⟩ | ⟨rfl, rfl⟩ | ⟨rfl, rfl⟩
    · go_wp2_with fail
      refine (M1.out _).mono ?_
      rintro e w' ⟨rfl, rfl⟩
      go_wp2_with fail
      refine (M2.out _).mono ?_
      rintro e w' ⟨rfl, rfl⟩
      go_wp2_with fail
      go_round
      case rel => exact Or.inr (Or.inl ⟨rfl, rfl⟩)
      case measure => simp [intOf]
    · go_wp2_with fail
      refine (M3.out _).mono ?_
      rintro e w' ⟨rfl, rfl⟩
      go_wp2_with fail
      refine (M4.out _).mono ?_
      rintro e w' ⟨rfl, rfl⟩
      go_wp2_with fail
      go_round
      case rel => exact Or.inr (Or.inr ⟨rfl, rfl⟩)
      case measure => simp [intOf]
    · go_wp2_with fail
      go_ret
      exact ⟨by rw [← HE.out]; rfl, HB.out⟩

theorem isPower_int (s : Int) (h1 : 1 ≤ s) (h2 : s ≤ 4096) (g : Bool) (hg : isPow s = g) (W : World) :
    Calls Try.prog 21 #[.int .i64 s] W fun e w' => e = .returned (.bool g) ∧ W = w' := by
  obtain ⟨n, rfl⟩ := Int.eq_ofNat_of_zero_le (show 0 ≤ s by omega)
  exact isPower_any n (by omega) (by omega) g hg W
set_option maxHeartbeats 1000000 in
theorem stripe_no (a b p q r : Nat) (s : Int) (hs : isPow s = false) (W : World) :
    Calls Try.prog 13 #[.agg (kyc a b p q r), .int .i64 s] W fun e w' => e = .returned (.int .i64 0) ∧ Below W.heap.size W w' := by
  have HB := Lib.hid ((Below.refl _ W).alloc (Nat.le_refl _) (.cells (kyc a b p q r) 29))
  by_cases h1 : s < 1
  · clear hs
    go_enter Try.func13, Try.ntmps13
    go_wp2_with fail
    go_ret
    exact ⟨rfl, HB.out⟩
  · by_cases h2 : 4096 < s
    · clear hs
      go_enter Try.func13, Try.ntmps13
      go_wp2_with fail
      go_ret
      exact ⟨rfl, HB.out⟩
    · have HP := Lib.hid (isPower_int s (by omega) (by omega) false hs)
      have d1 : 1 ≤ s := by omega
      have d2 : s ≤ 4096 := by omega
      clear hs h1 h2
      go_enter Try.func13, Try.ntmps13
      go_wp2_with (refine (HP.out _).mono ?_; rintro e w' ⟨rfl, rfl⟩)
      go_ret
      exact ⟨rfl, HB.out⟩
set_option maxHeartbeats 1000000 in
theorem stripe_yes (a b p q r : Nat) (s : Int) (hs : isPow s = true) (ha : a < 4294967296) (hb : b < 4294967296) (hp : p < 65536) (hq : q < 65536) (hr : r < 256) (x : Nat) (hx : hashN a b p q r = x) (W : World) :
    Calls Try.prog 13 #[.agg (kyc a b p q r), .int .i64 s] W fun e w' => e = .returned (.int .i64 ((x : Int) % s)) ∧ Below W.heap.size W w' := by
  have HX := Lib.hid (Blk.box W (kyc a b p q r) 29)
  have HB := Lib.hid ((Below.refl _ W).alloc (Nat.le_refl _) (.cells (kyc a b p q r) 29))
  obtain ⟨x0, x1, x2, x3, x4⟩ := ky_cells HX.out
  obtain ⟨d1, d2⟩ := KeyM.isPow_bd hs
  have hxl : x < 4294967296 := hx ▸ KeyM.hashN_lt a b p q r
  have HH := Lib.hid (hash_any a b p q r ha hb hp hq hr x hx)
  have HP := Lib.hid (isPower_int s d1 d2 true hs)
  have HF : Hid (wrap64 ((x : Int) % s) = (x : Int) % s) := by
    have y0 := Int.emod_nonneg (x : Int) (show s ≠ 0 by omega)
    have y1 := Int.emod_lt_of_pos (x : Int) (show 0 < s by omega)
    generalize (x : Int) % s = z at y0 y1
    show wrap64 z = z
    unfold wrap64; omega
  clear hs hx
  go_enter Try.func13, Try.ntmps13
  go_wp2_with (refine (HP.out _).mono ?_; rintro e w' ⟨rfl, rfl⟩)
  refine (HH.out _).mono ?_
  rintro e w1 ⟨rfl, hb1⟩
  have HB1 := Lib.hid (HB.out.trans (hb1.mono HB.out.size))
  clear hb1 HX HB x0 x1 x2 x3 x4
  go_wp2_with fail
  go_ret
  exact ⟨ret_int HF.out, HB1.out⟩
end Ky
end Go.Proofs.Ytabmdkjkdgipbaa
