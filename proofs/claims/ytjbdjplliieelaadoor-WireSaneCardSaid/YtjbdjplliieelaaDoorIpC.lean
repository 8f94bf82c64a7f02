/- Layer 4: the contract of the reference's Parse. -/
import Derived.Test.YtjbdjplliieelaaDoorIpB
set_option linter.unusedVariables false
set_option linter.unusedSimpArgs false
namespace Go.Proofs.YtjbdjplliieelaaDoor
open Go.ChangeShapes Go.WideShapes Go.ChangeAt Go.RowKit Go.Mtl
namespace Ip
open IpM (word four hs tl word_lt four_lt errC errN body hs_le tl_lt)
open SumM (add add_le)

abbrev zero7 : Obj := .cells (cells7 0 0 0 0 0 0 0) 37
/-- The world behind the reference's first two statements. -/
abbrev two0 (W : World) : World := (W.alloc zero7).alloc zero7
theorem two0_a (W : World) : Hd (two0 W) W.heap.size 0 0 0 0 0 0 0 := (Hd.box W 0 0 0 0 0 0 0).next ((Below.refl _ _).alloc (Nat.le_refl _) _)
theorem two0_b (W : World) : Hd (two0 W) (W.heap.size + 1) 0 0 0 0 0 0 0 := by
  have := Hd.box (W.alloc zero7) 0 0 0 0 0 0 0
  rwa [World.size_alloc] at this
theorem two0_bel (W : World) : Below W.heap.size W (two0 W) := ((Below.refl _ W).alloc (Nat.le_refl _) _).alloc (by simp) _
theorem below_drewN {B : Nat} {a w : World} (h : Below B a w) (n : Nat) : Below B a (w.drewN n) := ⟨h.os, h.tape, h.output, h.size, h.block⟩

structure RAt (W w : World) (B : Nat) (A : Option Addr) (n : Nat) (bs : List UInt8) : Prop where
  a : Hd w W.heap.size 0 0 0 0 0 0 0
  b : Hd w (W.heap.size + 1) 0 0 0 0 0 0 0
  bel : Below W.heap.size W w
  bts : Bts w B A n bs
theorem RAt.drewN {W w : World} {B n : Nat} {A : Option Addr} {bs : List UInt8} (h : RAt W w B A n bs) (k : Nat) : RAt W (w.drewN k) B A n bs := ⟨h.a, h.b, below_drewN h.bel k, h.bts.drewN k⟩

set_option maxHeartbeats 4000000 in
theorem refParse_bad (A : Option Addr) (n c : Nat) (bs : List UInt8) (B : Nat) (W : World) (hb : Bts W B A n bs) (hB : B ≤ W.heap.size) (hc : n ≤ c) (hm : c ≤ 9223372036854775807) (he : errN bs ≠ 0) :
    Calls Tryd.prog 14 #[.slice A n c] W fun e w' => e = .returned (badV (errN bs)) ∧ Below W.heap.size W w' := by
  have bel := two0_bel W
  obtain ⟨z0, z1, z2, z3, z4, z5, z6⟩ := (two0_a W).cells
  obtain ⟨f0, f1, f2, f3, f4, f5, f6⟩ := (two0_a W).frozen
  obtain ⟨y0, y1, y2, y3, y4, y5, y6⟩ := (two0_b W).cells
  obtain ⟨g0, g1, g2, g3, g4, g5, g6⟩ := (two0_b W).frozen
  have HL := Lib.hid hb.len
  have HB := Lib.hid ((hb.alloc hB zero7).alloc (by simp; omega) zero7)
  by_cases h1 : 1500 < n
  · have HF : Hid (errN bs = 2) := by show _ = _; unfold errN; rw [if_pos (by have := HL.out; omega)]
    clear hb he
    go_enter Tryd.func14, Tryd.ntmps14
    go_wp2_with fail
    exact bodyPost_ret (v := badV 2) (by simp [results, Tryd.results14, go_sem, z0, z1, z2, z3, z4, z5, z6]) rfl ⟨by rw [HF.out], bel⟩
  · by_cases h2 : n < 20
    · have HF : Hid (errN bs = 4) := by show _ = _; unfold errN; rw [if_neg (by have := HL.out; omega), if_pos (by have := HL.out; omega)]
      clear hb he
      go_enter Tryd.func14, Tryd.ntmps14
      go_wp2_with fail
      exact bodyPost_ret (v := badV 4) (by simp [results, Tryd.results14, go_sem, z0, z1, z2, z3, z4, z5, z6]) rfl ⟨by rw [HF.out], bel⟩
    · have HN : Hid (errN bs = errC bs) := by show _ = _; unfold errN; rw [if_neg (by have := HL.out; omega), if_neg (by have := HL.out; omega)]
      obtain ⟨b, off, rfl, hlt, hcell⟩ := HB.out.at_ (by omega)
      have c0 := hcell 0 (by omega)
      rw [Nat.add_zero] at c0
      have i0 : 0 < n := by omega
      have y0b := byt_lt bs 0
      have hsl := hs_le bs
      have htl := tl_lt bs
      have e4 : 4 * ((byt bs 0 : Int) % 16) = (hs bs : Int) := by unfold hs; omega
      have T2 : Hid (∀ W', Bts W' B (some ⟨b, off, none⟩) n bs → Calls Tryd.prog 25 #[.slice (some ⟨b, off, none⟩) n c, .int .i64 (2 : Int)] W' fun e w' => e = .returned (.int .i64 (tl bs : Int)) ∧ ∃ k, w' = W'.drewN k) :=
        fun W' hb => two_any (some ⟨b, off, none⟩) n c bs B 2 W' hb hc hm (by omega)
      have T6 : Hid (∀ W', Bts W' B (some ⟨b, off, none⟩) n bs → Calls Tryd.prog 25 #[.slice (some ⟨b, off, none⟩) n c, .int .i64 (6 : Int)] W' fun e w' => e = .returned (.int .i64 (word bs 6 : Int)) ∧ ∃ k, w' = W'.drewN k) :=
        fun W' hb => two_any (some ⟨b, off, none⟩) n c bs B 6 W' hb hc hm (by omega)
      clear hcell hb
      by_cases h3 : byt bs 0 / 16 = 4
      · have d1 : ((byt bs 0 : Int) / 16 != 4) = false := by simp; omega
        by_cases h4 : hs bs < 20
        · have HF : Hid (errN bs = 6) := by show _ = _; rw [HN.out]; unfold errC; rw [if_neg (by omega), if_pos h4]
          clear h3 he
          go_enter Tryd.func14, Tryd.ntmps14
          go_wp2_with fail
          exact bodyPost_ret (v := badV 6) (by simp [results, Tryd.results14, go_sem, z0, z1, z2, z3, z4, z5, z6]) rfl ⟨by rw [HF.out], bel⟩
        · by_cases h5 : n < hs bs
          · have HF : Hid (errN bs = 4) := by show _ = _; rw [HN.out]; unfold errC; rw [if_neg (by omega), if_neg (by omega), if_pos (by have := HL.out; omega)]
            clear h3 he
            go_enter Tryd.func14, Tryd.ntmps14
            go_wp2_with fail
            go_at_call 25
            refine (T2.out _ HB.out).mono ?_
            rintro e w' ⟨rfl, k, rfl⟩
            have HR := Lib.hid (RAt.drewN ⟨two0_a W, two0_b W, bel, HB.out⟩ k)
            clear z0 z1 z2 z3 z4 z5 z6 f0 f1 f2 f3 f4 f5 f6 y0 y1 y2 y3 y4 y5 y6 g0 g1 g2 g3 g4 g5 g6 bel c0
            generalize (two0 W).drewN k = w2 at HR ⊢
            obtain ⟨z0, z1, z2, z3, z4, z5, z6⟩ := HR.out.a.cells
            obtain ⟨f0, f1, f2, f3, f4, f5, f6⟩ := HR.out.a.frozen
            obtain ⟨y0, y1, y2, y3, y4, y5, y6⟩ := HR.out.b.cells
            go_wp2_with fail
            obtain ⟨r0, r1, r2, r3, r4, r5, r6⟩ := (HR.out.a.store 0 0 0 0 0 0 0).cells
            exact bodyPost_ret (v := badV 4) (by simp [results, Tryd.results14, go_sem, r0, r1, r2, r3, r4, r5, r6]) rfl ⟨by rw [HF.out], below_store7 HR.out.bel (Nat.le_refl _) _ _ _ _ _ _ _⟩
          · by_cases h6 : tl bs < hs bs
            · have HF : Hid (errN bs = 4) := by show _ = _; rw [HN.out]; unfold errC; rw [if_neg (by omega), if_neg (by omega), if_pos (by have := HL.out; omega)]
              clear h3 he
              go_enter Tryd.func14, Tryd.ntmps14
              go_wp2_with fail
              go_at_call 25
              refine (T2.out _ HB.out).mono ?_
              rintro e w' ⟨rfl, k, rfl⟩
              have HR := Lib.hid (RAt.drewN ⟨two0_a W, two0_b W, bel, HB.out⟩ k)
              clear z0 z1 z2 z3 z4 z5 z6 f0 f1 f2 f3 f4 f5 f6 y0 y1 y2 y3 y4 y5 y6 g0 g1 g2 g3 g4 g5 g6 bel c0
              generalize (two0 W).drewN k = w2 at HR ⊢
              obtain ⟨z0, z1, z2, z3, z4, z5, z6⟩ := HR.out.a.cells
              obtain ⟨f0, f1, f2, f3, f4, f5, f6⟩ := HR.out.a.frozen
              obtain ⟨y0, y1, y2, y3, y4, y5, y6⟩ := HR.out.b.cells
              go_wp2_with fail
              obtain ⟨r0, r1, r2, r3, r4, r5, r6⟩ := (HR.out.a.store 0 0 0 0 0 0 0).cells
              exact bodyPost_ret (v := badV 4) (by simp [results, Tryd.results14, go_sem, r0, r1, r2, r3, r4, r5, r6]) rfl ⟨by rw [HF.out], below_store7 HR.out.bel (Nat.le_refl _) _ _ _ _ _ _ _⟩
            · by_cases h7 : n < tl bs
              · have HF : Hid (errN bs = 4) := by show _ = _; rw [HN.out]; unfold errC; rw [if_neg (by omega), if_neg (by omega), if_pos (by have := HL.out; omega)]
                clear h3 he
                go_enter Tryd.func14, Tryd.ntmps14
                go_wp2_with fail
                go_at_call 25
                refine (T2.out _ HB.out).mono ?_
                rintro e w' ⟨rfl, k, rfl⟩
                have HR := Lib.hid (RAt.drewN ⟨two0_a W, two0_b W, bel, HB.out⟩ k)
                clear z0 z1 z2 z3 z4 z5 z6 f0 f1 f2 f3 f4 f5 f6 y0 y1 y2 y3 y4 y5 y6 g0 g1 g2 g3 g4 g5 g6 bel c0
                generalize (two0 W).drewN k = w2 at HR ⊢
                obtain ⟨z0, z1, z2, z3, z4, z5, z6⟩ := HR.out.a.cells
                obtain ⟨f0, f1, f2, f3, f4, f5, f6⟩ := HR.out.a.frozen
                obtain ⟨y0, y1, y2, y3, y4, y5, y6⟩ := HR.out.b.cells
                go_wp2_with fail
                obtain ⟨r0, r1, r2, r3, r4, r5, r6⟩ := (HR.out.a.store 0 0 0 0 0 0 0).cells
                exact bodyPost_ret (v := badV 4) (by simp [results, Tryd.results14, go_sem, r0, r1, r2, r3, r4, r5, r6]) rfl ⟨by rw [HF.out], below_store7 HR.out.bel (Nat.le_refl _) _ _ _ _ _ _ _⟩
              · have HA := Lib.hid (fun W' (hb : Bts W' B (some ⟨b, off, none⟩) n bs) => Sm.refAdd_any 0 (some ⟨b, off, none⟩) (hs bs) c (bs.take (hs bs)) W' B (hb.front (hs bs) (by omega)) (by omega) (by omega) (by omega) hm)
                have hal := add_le 0 (bs.take (hs bs))
                have HE : Hid (errN bs = if add 0 (bs.take (hs bs)) ≠ 65535 then 7 else if word bs 6 % 16384 ≠ 0 then 8 else 0) := by
                  show _ = _; rw [HN.out]; unfold errC; rw [if_neg (by omega), if_neg (by omega), if_neg (by have := HL.out; omega)]
                generalize add 0 (bs.take (hs bs)) = r at HA hal HE
                by_cases h8 : r = 65535
                · have h9 : word bs 6 % 16384 ≠ 0 := fun h => he (by rw [HE.out, if_neg (by omega), if_neg (by omega)])
                  have HF : Hid (errN bs = 8) := by show _ = _; rw [HE.out, if_neg (by omega), if_pos h9]
                  have d6 : ((r : Int) != 65535) = false := by simp; omega
                  have d7 : ((word bs 6 : Int) % 16384 != 0) = true := by simp; omega
                  clear h3 he h8 h9
                  go_enter Tryd.func14, Tryd.ntmps14
                  go_wp2_with fail
                  go_at_call 25
                  refine (T2.out _ HB.out).mono ?_
                  rintro e w' ⟨rfl, k, rfl⟩
                  have HR := Lib.hid (RAt.drewN ⟨two0_a W, two0_b W, bel, HB.out⟩ k)
                  clear z0 z1 z2 z3 z4 z5 z6 f0 f1 f2 f3 f4 f5 f6 y0 y1 y2 y3 y4 y5 y6 g0 g1 g2 g3 g4 g5 g6 bel c0
                  generalize (two0 W).drewN k = w2 at HR ⊢
                  obtain ⟨z0, z1, z2, z3, z4, z5, z6⟩ := HR.out.a.cells
                  obtain ⟨f0, f1, f2, f3, f4, f5, f6⟩ := HR.out.a.frozen
                  obtain ⟨y0, y1, y2, y3, y4, y5, y6⟩ := HR.out.b.cells
                  go_wp2_with fail
                  go_at_call 26
                  refine (HA.out _ HR.out.bts).mono ?_
                  rintro e w' ⟨rfl, rfl⟩
                  go_wp2_with fail
                  go_at_call 25
                  refine (T6.out _ HR.out.bts).mono ?_
                  rintro e w' ⟨rfl, k2, rfl⟩
                  have HR2 := Lib.hid (HR.out.drewN k2)
                  clear z0 z1 z2 z3 z4 z5 z6 f0 f1 f2 f3 f4 f5 f6 y0 y1 y2 y3 y4 y5 y6 HR
                  generalize w2.drewN k2 = w3 at HR2 ⊢
                  have HR := HR2
                  obtain ⟨z0, z1, z2, z3, z4, z5, z6⟩ := HR.out.a.cells
                  obtain ⟨f0, f1, f2, f3, f4, f5, f6⟩ := HR.out.a.frozen
                  obtain ⟨y0, y1, y2, y3, y4, y5, y6⟩ := HR.out.b.cells
                  go_wp2_with fail
                  obtain ⟨r0, r1, r2, r3, r4, r5, r6⟩ := (HR.out.a.store 0 0 0 0 0 0 0).cells
                  exact bodyPost_ret (v := badV 8) (by simp [results, Tryd.results14, go_sem, r0, r1, r2, r3, r4, r5, r6]) rfl ⟨by rw [HF.out], below_store7 HR.out.bel (Nat.le_refl _) _ _ _ _ _ _ _⟩
                · have HF : Hid (errN bs = 7) := by show _ = _; rw [HE.out, if_pos h8]
                  have d6 : ((r : Int) != 65535) = true := by simp; omega
                  clear h3 he h8
                  go_enter Tryd.func14, Tryd.ntmps14
                  go_wp2_with fail
                  go_at_call 25
                  refine (T2.out _ HB.out).mono ?_
                  rintro e w' ⟨rfl, k, rfl⟩
                  have HR := Lib.hid (RAt.drewN ⟨two0_a W, two0_b W, bel, HB.out⟩ k)
                  clear z0 z1 z2 z3 z4 z5 z6 f0 f1 f2 f3 f4 f5 f6 y0 y1 y2 y3 y4 y5 y6 g0 g1 g2 g3 g4 g5 g6 bel c0
                  generalize (two0 W).drewN k = w2 at HR ⊢
                  obtain ⟨z0, z1, z2, z3, z4, z5, z6⟩ := HR.out.a.cells
                  obtain ⟨f0, f1, f2, f3, f4, f5, f6⟩ := HR.out.a.frozen
                  obtain ⟨y0, y1, y2, y3, y4, y5, y6⟩ := HR.out.b.cells
                  go_wp2_with fail
                  go_at_call 26
                  refine (HA.out _ HR.out.bts).mono ?_
                  rintro e w' ⟨rfl, rfl⟩
                  go_wp2_with fail
                  obtain ⟨r0, r1, r2, r3, r4, r5, r6⟩ := (HR.out.a.store 0 0 0 0 0 0 0).cells
                  exact bodyPost_ret (v := badV 7) (by simp [results, Tryd.results14, go_sem, r0, r1, r2, r3, r4, r5, r6]) rfl ⟨by rw [HF.out], below_store7 HR.out.bel (Nat.le_refl _) _ _ _ _ _ _ _⟩
      · have d1 : ((byt bs 0 : Int) / 16 != 4) = true := by simp; omega
        have HF : Hid (errN bs = 5) := by show _ = _; rw [HN.out]; unfold errC; rw [if_pos h3]
        clear h3 he
        go_enter Tryd.func14, Tryd.ntmps14
        go_wp2_with fail
        exact bodyPost_ret (v := badV 5) (by simp [results, Tryd.results14, go_sem, z0, z1, z2, z3, z4, z5, z6]) rfl ⟨by rw [HF.out], bel⟩

theorem grown_of_below {w w' : World} (h : Below w.heap.size w w') (r : Option Nat) : w.grownBy w' r := ⟨h.os, h.tape, h.output, h.size, fun k hk _ => h.block k hk⟩
/-- What stands ahead of the last statement of the reference's Parse. -/
def RK (W w3 : World) (B b off n : Nat) (bs : List UInt8) : Prop := Bts w3 B (some ⟨b, off, none⟩) n bs ∧ 20 ≤ n ∧ B ≤ W.heap.size ∧ W.heap.size < w3.heap.size ∧ Below W.heap.size W w3
/-- What it keeps: nothing has turned but the result's block. -/
def RB (W w3 w : World) : Prop := w3.grownBy w (some W.heap.size) ∧ ∃ a b c d e f h, Hd w W.heap.size a b c d e f h
abbrev RS (W w3 w : World) (b off : Nat) (bs : List UInt8) : Prop :=
  w.cell? ⟨b, off + 9, none⟩ = some (.int .u8 (byt bs 9 : Int)) ∧ w.cell? ⟨b, off + 8, none⟩ = some (.int .u8 (byt bs 8 : Int)) ∧ Hid (RB W w3 w)
section
variable {W w3 w w' : World} {B b off n : Nat} {bs : List UInt8}
theorem RB.bts (hk : Hid (RK W w3 B b off n bs)) (h : Hid (RB W w3 w)) : Bts w B (some ⟨b, off, none⟩) n bs :=
  hk.out.1.keep fun p hp => World.cell?_of_block (h.out.1.block p.block (by have := hk.out.2.2; omega) (by have := hk.out.2.2; simp; omega))
theorem RB.bel (hk : Hid (RK W w3 B b off n bs)) (h : Hid (RB W w3 w)) : Below W.heap.size W w :=
  hk.out.2.2.2.2.trans ⟨h.out.1.os, h.out.1.tape, h.out.1.output, h.out.1.size, fun k hk' => h.out.1.block k (by have := hk.out.2.2; omega) (by simp; omega)⟩
theorem RB.open (h : Hid (RB W w3 w)) : ∃ a b c d e f h, Hid (Hd w W.heap.size a b c d e f h) := h.out.2
theorem RB.rs (hk : Hid (RK W w3 B b off n bs)) (h : RB W w3 w) : RS W w3 w b off bs := by
  obtain ⟨b', off', e, _, hc⟩ := (RB.bts hk h).at_ (by have := hk.out.2; omega)
  injection e with e
  injection e with e1 e2
  subst e1; subst e2
  exact ⟨hc 9 (by have := hk.out.2; omega), hc 8 (by have := hk.out.2; omega), h⟩
theorem RS.start (hk : Hid (RK W w3 B b off n bs)) (h : Hid (RB W w3 w3)) : RS W w3 w3.drew b off bs :=
  RB.rs hk ⟨⟨h.out.1.os, h.out.1.tape, h.out.1.output, h.out.1.size, h.out.1.block⟩, h.out.2⟩
theorem RS.next (hk : Hid (RK W w3 B b off n bs)) (h : RS W w3 w b off bs) (hb : Below w.heap.size w w') : RS W w3 w' b off bs := by
  obtain ⟨h1, a', b', c', d', e', f', g', h3⟩ := h.2.2.out
  exact RB.rs hk ⟨grown_trans h1 (grown_of_below hb _), a', b', c', d', e', f', g', h3.next hb⟩
theorem RS.drewN (hk : Hid (RK W w3 B b off n bs)) (h : RS W w3 w b off bs) (k : Nat) : RS W w3 (w.drewN k) b off bs := RS.next hk h (below_drewN (Below.refl _ _) k)
theorem RS.alloc (hk : Hid (RK W w3 B b off n bs)) (h : RS W w3 w b off bs) (o : Obj) : RS W w3 (w.alloc o) b off bs := RS.next hk h ((Below.refl _ _).alloc (Nat.le_refl _) o)
/-- A row behind w3 has grown. -/
theorem RS.grown (hk : Hid (RK W w3 B b off n bs)) (h : RS W w3 w b off bs) {g l c : Nat} (hge : w3.heap.size ≤ g) (hg : w.grownBy w' (Value.slice (some ⟨g, 0, none⟩) l c).ownBlock) : RS W w3 w' b off bs := by
  obtain ⟨h1, a', b', c', d', e', f', g', h3⟩ := h.2.2.out
  have hlt := hk.out.2.2.2.1
  have hs := h1.size
  refine RB.rs hk ⟨⟨hg.os.trans h1.os, hg.tape.trans h1.tape, hg.output.trans h1.output, Nat.le_trans hs hg.size, fun i hi hr => (hg.block i (by omega) (by simp [Value.ownBlock]; omega)).trans (h1.block i hi hr)⟩, a', b', c', d', e', f', g', h3.keep (hg.block _ (by omega) (by simp [Value.ownBlock]; omega))⟩
/-- A call that draws. -/
theorem RS.call {P : Program} {f : FuncId} {args : Array Value} {v : Value} (hk : Hid (RK W w3 B b off n bs)) (H : ∀ W', Bts W' B (some ⟨b, off, none⟩) n bs → Calls P f args W' fun e w' => e = .returned v ∧ ∃ k, w' = W'.drewN k) (w : World) (h : RS W w3 w b off bs) :
    Calls P f args w fun e w' => e = .returned v ∧ RS W w3 w' b off bs ∧ w'.heap = w.heap := by
  refine (H w (RB.bts hk h.2.2)).mono ?_
  rintro e w' ⟨he, k, rfl⟩
  exact ⟨he, RS.drewN hk h k, rfl⟩
theorem RS.store (hk : Hid (RK W w3 B b off n bs)) (h : RS W w3 w b off bs) (a' b' c' d' e' f' g' : Int) : RS W w3 (store7 w W.heap.size a' b' c' d' e' f' g') b off bs := by
  obtain ⟨h1, a, b, c, d, e, f, g, h3⟩ := h.2.2.out
  exact RB.rs hk ⟨grown_trans h1 (grown_store7 w W.heap.size a' b' c' d' e' f' g'), _, _, _, _, _, _, _, h3.store _ _ _ _ _ _ _⟩
theorem own_store7 {A : Option Addr} {m k gg : Nat} {cs : List UInt8} (hk : Hid (RK W w3 B b off n bs)) (hge : w3.heap.size ≤ gg) (h : w.ownsRow gg 5 1 (.slice A m k) m (bvs cs)) (a' b' c' d' e' f' g' : Int) :
    (store7 w W.heap.size a' b' c' d' e' f' g').ownsRow gg 5 1 (.slice A m k) m (bvs cs) := by
  refine h.kept (row := some W.heap.size) (grown_store7 w W.heap.size a' b' c' d' e' f' g') (.inr fun e => ?_)
  have := (h.lt _ e).1
  have := hk.out.2.2.2.1
  omega
end
theorem own_empty {w : World} {g : Nat} (h : w.heap[g]? = some (.cells #[] 5 (0, 0))) : w.ownsRow g 5 1 (.slice (some ⟨g, 0, none⟩) 0 0) 0 (bvs []) :=
  ⟨by simp [bvs], .inr ⟨g, 0, #[], rfl, Nat.le_refl _, h, Nat.le_refl _, Nat.zero_le _, by simp, by simp [bvs]⟩⟩

set_option maxHeartbeats 40000000 in
theorem refParse_ok (A : Option Addr) (n c : Nat) (bs : List UInt8) (B : Nat) (W : World) (hb : Bts W B A n bs) (hB : B ≤ W.heap.size) (hc : n ≤ c) (hm : c ≤ 9223372036854775807) (he : errN bs = 0) :
    Calls Tryd.prog 14 #[.slice A n c] W (Parsed W bs) := by
  obtain ⟨i0, hi0, hz0, hz1, hz2⟩ := info_parts u8_info
  obtain ⟨p1, p2, he⟩ := IpM.errN_zero he
  obtain ⟨q1, q2, q3, q4, q5, q6, q7⟩ := IpM.errC_zero he
  have HBL := Lib.hid (IpM.body_len he)
  rw [hb.len] at p1 p2 q3 q5
  have bel := two0_bel W
  obtain ⟨z0, z1, z2, z3, z4, z5, z6⟩ := (two0_a W).cells
  obtain ⟨f0, f1, f2, f3, f4, f5, f6⟩ := (two0_a W).frozen
  obtain ⟨y0, y1, y2, y3, y4, y5, y6⟩ := (two0_b W).cells
  obtain ⟨g0, g1, g2, g3, g4, g5, g6⟩ := (two0_b W).frozen
  have HL := Lib.hid hb.len
  have HB := Lib.hid ((hb.alloc hB zero7).alloc (by simp; omega) zero7)
  obtain ⟨b, off, rfl, hlt, hcell⟩ := HB.out.at_ (by omega)
  have c0 := hcell 0 (by omega)
  rw [Nat.add_zero] at c0
  have i0' : 0 < n := by omega
  have i8 : (8 : Int) < n := by omega
  have i9 : (9 : Int) < n := by omega
  have q8 : tl bs ≤ c := by omega
  have hw4 := word_lt bs 4
  have y0b := byt_lt bs 0
  have hsl := hs_le bs
  have htl := tl_lt bs
  have e4 : 4 * ((byt bs 0 : Int) % 16) = (hs bs : Int) := by unfold hs; omega
  have T2 : Hid (∀ W', Bts W' B (some ⟨b, off, none⟩) n bs → Calls Tryd.prog 25 #[.slice (some ⟨b, off, none⟩) n c, .int .i64 (2 : Int)] W' fun e w' => e = .returned (.int .i64 (tl bs : Int)) ∧ ∃ k, w' = W'.drewN k) :=
    fun W' hb => two_any (some ⟨b, off, none⟩) n c bs B 2 W' hb hc hm (by omega)
  have T6 : Hid (∀ W', Bts W' B (some ⟨b, off, none⟩) n bs → Calls Tryd.prog 25 #[.slice (some ⟨b, off, none⟩) n c, .int .i64 (6 : Int)] W' fun e w' => e = .returned (.int .i64 (word bs 6 : Int)) ∧ ∃ k, w' = W'.drewN k) :=
    fun W' hb => two_any (some ⟨b, off, none⟩) n c bs B 6 W' hb hc hm (by omega)
  have T4 : Hid (∀ W', Bts W' B (some ⟨b, off, none⟩) n bs → Calls Tryd.prog 25 #[.slice (some ⟨b, off, none⟩) n c, .int .i64 (4 : Int)] W' fun e w' => e = .returned (.int .i64 (word bs 4 : Int)) ∧ ∃ k, w' = W'.drewN k) :=
    fun W' hb => two_any (some ⟨b, off, none⟩) n c bs B 4 W' hb hc hm (by omega)
  have U12 : Hid (∀ W', Bts W' B (some ⟨b, off, none⟩) n bs → Calls Tryd.prog 27 #[.slice (some ⟨b, off, none⟩) n c, .int .i64 (12 : Int)] W' fun e w' => e = .returned (.int .u32 (four bs 12 : Int)) ∧ ∃ k, w' = W'.drewN k) :=
    fun W' hb => four_ref (some ⟨b, off, none⟩) n c bs B 12 W' hb hc hm (by omega) (by omega)
  have U16 : Hid (∀ W', Bts W' B (some ⟨b, off, none⟩) n bs → Calls Tryd.prog 27 #[.slice (some ⟨b, off, none⟩) n c, .int .i64 (16 : Int)] W' fun e w' => e = .returned (.int .u32 (four bs 16 : Int)) ∧ ∃ k, w' = W'.drewN k) :=
    fun W' hb => four_ref (some ⟨b, off, none⟩) n c bs B 16 W' hb hc hm (by omega) (by omega)
  have d1 : ((byt bs 0 : Int) / 16 != 4) = false := by simp; omega
  have HA := Lib.hid (fun W' (hb : Bts W' B (some ⟨b, off, none⟩) n bs) => Sm.refAdd_any 0 (some ⟨b, off, none⟩) (hs bs) c (bs.take (hs bs)) W' B (hb.front (hs bs) (by omega)) (by omega) (by omega) (by omega) hm)
  rw [q6] at HA
  have d7 : ((word bs 6 : Int) % 16384 != 0) = false := by simp; omega
  obtain ⟨m, hmm⟩ : ∃ m, tl bs - hs bs = m := ⟨_, rfl⟩
  have m1 : hs bs + m ≤ n := by omega
  have HM := Lib.hid hmm
  have HBD := Lib.hid (fun (w : World) (hb : Bts w B (some ⟨b, off, none⟩) n bs) => body_bts hb hmm m1)
  clear hcell hb he q1 q6 q7 hmm
  go_enter Tryd.func14, Tryd.ntmps14
  go_wp2_with fail
  go_at_call 25
  refine (T2.out _ HB.out).mono ?_
  rintro e w' ⟨rfl, k, rfl⟩
  have HR := Lib.hid (RAt.drewN ⟨two0_a W, two0_b W, bel, HB.out⟩ k)
  clear z0 z1 z2 z3 z4 z5 z6 f0 f1 f2 f3 f4 f5 f6 y0 y1 y2 y3 y4 y5 y6 g0 g1 g2 g3 g4 g5 g6 bel c0
  generalize (two0 W).drewN k = w2 at HR ⊢
  go_wp2_with fail
  go_at_call 26
  refine (HA.out _ HR.out.bts).mono ?_
  rintro e w' ⟨rfl, rfl⟩
  go_wp2_with fail
  go_at_call 25
  refine (T6.out _ HR.out.bts).mono ?_
  rintro e w' ⟨rfl, k2, rfl⟩
  have HR2 := Lib.hid (HR.out.drewN k2)
  clear HR
  generalize w2.drewN k2 = w3 at HR2 ⊢
  have w4e : IntKind.u16.wrap (word bs 4 : Int) = (word bs 4 : Int) := by simp [IntKind.wrap, IntKind.bits, IntKind.signed]; omega
  have HR3 : Hid (RB W w3 w3) := ⟨World.grownBy.refl _ _, _, _, _, _, _, _, _, HR2.out.a⟩
  have HK : Hid (RK W w3 B b off n bs) := ⟨HR2.out.bts, p2, hB, HR2.out.a.lt, HR2.out.bel⟩
  have T4 := Lib.hid (RS.call HK T4.out)
  have U12 := Lib.hid (RS.call HK U12.out)
  have U16 := Lib.hid (RS.call HK U16.out)
  clear HR2
  go_wp2_with fail
  -- region: by mkIpC.py
  refine wp_region_held_drew (S := (fun w' => w'.cell? ⟨b, off + 9, none⟩ = some (.int .u8 (byt bs 9 : Int)) ∧ w'.cell? ⟨b, off + 8, none⟩ = some (.int .u8 (byt bs 8 : Int)) ∧ Hid (RB W w3 w'))) (by kernel_rfl) (RS.start HK HR3) (fun hH => ?_)
  refine wpAnyH_take (i := 0) (oi := ⟨some 61, _, _, _, _, _⟩) (v := ?v1) rfl (by kernel_rfl) (by kernel_rfl) (by kernel_rfl) (fun _ _ _ h => h) (Or.inl ⟨rfl, ?c1⟩) hH ?r1
  case c1 => (intro w' _; go_simp; (try with_reducible rfl))
  try simp only [Act.put, List.setIfInBounds_toArray, List.set_cons_zero, List.set_cons_succ]
  refine wpAnyH_take (i := 1) (oi := ⟨some 62, _, _, _, _, _⟩) (v := ?v2) rfl (by kernel_rfl) (by kernel_rfl) (by kernel_rfl) (fun _ _ _ h => h) (Or.inl ⟨rfl, ?c2⟩) hH ?r2
  case c2 => (intro w' _; go_simp; (try with_reducible rfl))
  try simp only [Act.put, List.setIfInBounds_toArray, List.set_cons_zero, List.set_cons_succ]
  refine wpAnyH_take (i := 2) (oi := ⟨some 63, _, _, _, _, _⟩) (v := ?v3) rfl (by kernel_rfl) (by kernel_rfl) (by kernel_rfl) (fun _ _ _ h => h) (Or.inl ⟨rfl, ?c3⟩) hH ?r3
  case c3 => (intro w' hS; (try dsimp only at hS); go_simp; (try with_reducible rfl))
  try simp only [Act.put, List.setIfInBounds_toArray, List.set_cons_zero, List.set_cons_succ]
  refine wpAnyH_take (i := 3) (oi := ⟨some 64, _, _, _, _, _⟩) (v := ?v4) rfl (by kernel_rfl) (by kernel_rfl) (by kernel_rfl) (fun _ _ _ h => h) (Or.inl ⟨rfl, ?c4⟩) hH ?r4
  case c4 => (intro w' _; go_simp; (try with_reducible rfl))
  try simp only [Act.put, List.setIfInBounds_toArray, List.set_cons_zero, List.set_cons_succ]
  refine wpAnyH_take (i := 5) (oi := ⟨some 66, _, _, _, _, _⟩) (v := ?v5) rfl (by kernel_rfl) (by kernel_rfl) (by kernel_rfl) (fun _ _ _ h => h) (Or.inl ⟨rfl, ?c5⟩) hH ?r5
  case c5 => (intro w' _; go_simp; (try with_reducible rfl))
  try simp only [Act.put, List.setIfInBounds_toArray, List.set_cons_zero, List.set_cons_succ]
  refine wpAnyH_take (i := 7) (oi := ⟨some 68, _, _, _, _, _⟩) (v := ?v6) rfl (by kernel_rfl) (by kernel_rfl) (by kernel_rfl) (fun _ _ _ h => h) (Or.inl ⟨rfl, ?c6⟩) hH ?r6
  case c6 => (intro w' _; go_simp; (try with_reducible rfl))
  try simp only [Act.put, List.setIfInBounds_toArray, List.set_cons_zero, List.set_cons_succ]
  refine wpAnyH_take (i := 8) (oi := ⟨some 69, _, _, _, _, _⟩) (v := ?v7) rfl (by kernel_rfl) (by kernel_rfl) (by kernel_rfl) (fun _ _ _ h => h) (Or.inl ⟨rfl, ?c7⟩) hH ?r7
  case c7 => (intro w' _; go_simp; (try with_reducible rfl))
  try simp only [Act.put, List.setIfInBounds_toArray, List.set_cons_zero, List.set_cons_succ]
  refine wpAnyH_take (i := 9) (oi := ⟨some 70, _, _, _, _, _⟩) (v := ?v8) rfl (by kernel_rfl) (by kernel_rfl) (by kernel_rfl) (fun _ _ _ h => h) (Or.inl ⟨rfl, ?c8⟩) hH ?r8
  case c8 => (intro w' _; go_simp; (try with_reducible rfl))
  try simp only [Act.put, List.setIfInBounds_toArray, List.set_cons_zero, List.set_cons_succ]
  refine wpAnyH_take (i := 10) (oi := ⟨some 71, _, _, _, _, _⟩) (v := ?v9) rfl (by kernel_rfl) (by kernel_rfl) (by kernel_rfl) (fun _ _ _ h => h) (Or.inl ⟨rfl, ?c9⟩) hH ?r9
  case c9 => (intro w' _; go_simp; (try with_reducible rfl))
  try simp only [Act.put, List.setIfInBounds_toArray, List.set_cons_zero, List.set_cons_succ]
  refine wpAnyH_take (i := 11) (oi := ⟨some 72, _, _, _, _, _⟩) (v := ?v10) rfl (by kernel_rfl) (by kernel_rfl) (by kernel_rfl) (fun _ _ _ h => h) (Or.inl ⟨rfl, ?c10⟩) hH ?r10
  case c10 => (intro w' hS; (try dsimp only at hS); go_simp; (try with_reducible rfl))
  try simp only [Act.put, List.setIfInBounds_toArray, List.set_cons_zero, List.set_cons_succ]
  refine wpAnyH_take (i := 12) (oi := ⟨some 73, _, _, _, _, _⟩) (v := ?v11) rfl (by kernel_rfl) (by kernel_rfl) (by kernel_rfl) (fun _ _ _ h => h) (Or.inl ⟨rfl, ?c11⟩) hH ?r11
  case c11 => (intro w' _; go_simp; (try with_reducible rfl))
  try simp only [Act.put, List.setIfInBounds_toArray, List.set_cons_zero, List.set_cons_succ]
  refine wpAnyH_take (i := 17) (oi := ⟨some 78, _, _, _, _, _⟩) (v := ?v12) rfl (by kernel_rfl) (by kernel_rfl) (by kernel_rfl) (fun _ _ _ h => h) (Or.inl ⟨rfl, ?c12⟩) hH ?r12
  case c12 => (intro w' _; go_simp; (try with_reducible rfl))
  try simp only [Act.put, List.setIfInBounds_toArray, List.set_cons_zero, List.set_cons_succ]
  refine wpAnyH_take (i := 18) (oi := ⟨some 79, _, _, _, _, _⟩) (v := ?v13) rfl (by kernel_rfl) (by kernel_rfl) (by kernel_rfl) (fun _ _ _ h => h) (Or.inl ⟨rfl, ?c13⟩) hH ?r13
  case c13 => (intro w' _; go_simp; (try with_reducible rfl))
  try simp only [Act.put, List.setIfInBounds_toArray, List.set_cons_zero, List.set_cons_succ]
  refine wpAnyH_take (i := 19) (oi := ⟨some 80, _, _, _, _, _⟩) (v := ?v14) rfl (by kernel_rfl) (by kernel_rfl) (by kernel_rfl) (fun _ _ _ h => h) (Or.inl ⟨rfl, ?c14⟩) hH ?r14
  case c14 => (intro w' _; go_simp; (try with_reducible rfl))
  try simp only [Act.put, List.setIfInBounds_toArray, List.set_cons_zero, List.set_cons_succ]
  refine wpAnyH_take (i := 20) (oi := ⟨some 81, _, _, _, _, _⟩) (v := ?v15) rfl (by kernel_rfl) (by kernel_rfl) (by kernel_rfl) (fun _ _ _ h => h) (Or.inl ⟨rfl, ?c15⟩) hH ?r15
  case c15 => (intro w' _; go_simp; (try with_reducible rfl))
  try simp only [Act.put, List.setIfInBounds_toArray, List.set_cons_zero, List.set_cons_succ]
  refine wpAnyH_ready (rs := [4, 16]) (by kernel_rfl) (by simp) (AllReadyH.cons rfl (fun K hK => ?_) (AllReadyH.cons rfl (fun K hK => ?_) (AllReadyH.nil)))
  · go_simp
    go_at_call 27
    refine (U12.out _ hH).mono ?_
    rintro e w4 ⟨rfl, hS, hh⟩
    refine hK.out _ _ (hS) (fun hH => ?_)
    clear hK K
    clear hS hh
    try simp only [Act.put, List.setIfInBounds_toArray, List.set_cons_zero, List.set_cons_succ]
    refine wpAnyH_ready (rs := [6, 16]) (by kernel_rfl) (by simp) (AllReadyH.cons rfl (fun K hK => ?_) (AllReadyH.cons rfl (fun K hK => ?_) (AllReadyH.nil)))
    · go_simp
      go_at_call 27
      refine (U16.out _ hH).mono ?_
      rintro e w6 ⟨rfl, hS, hh⟩
      refine hK.out _ _ (hS) (fun hH => ?_)
      clear hK K
      clear hS hh
      try simp only [Act.put, List.setIfInBounds_toArray, List.set_cons_zero, List.set_cons_succ]
      refine wpAnyH_ready (rs := [13, 16]) (by kernel_rfl) (by simp) (AllReadyH.cons rfl (fun K hK => ?_) (AllReadyH.cons rfl (fun K hK => ?_) (AllReadyH.nil)))
      · go_simp
        go_at_call 25
        refine (T4.out _ hH).mono ?_
        rintro e w13 ⟨rfl, hS, hh⟩
        refine hK.out _ _ (hS) (fun hH => ?_)
        clear hK K
        clear hS hh
        try simp only [Act.put, List.setIfInBounds_toArray, List.set_cons_zero, List.set_cons_succ]
        refine wpAnyH_take (i := 14) (oi := ⟨some 75, _, _, _, _, _⟩) (v := ?v16) rfl (by kernel_rfl) (by kernel_rfl) (by kernel_rfl) (fun _ _ _ h => h) (Or.inl ⟨rfl, ?c16⟩) hH ?r16
        case c16 => (intro w' _; go_simp; (try with_reducible rfl))
        try simp only [Act.put, List.setIfInBounds_toArray, List.set_cons_zero, List.set_cons_succ]
        refine wpAnyH_take (i := 15) (oi := ⟨some 76, _, _, _, _, _⟩) (v := ?v17) rfl (by kernel_rfl) (by kernel_rfl) (by kernel_rfl) (fun _ _ _ h => h) (Or.inl ⟨rfl, ?c17⟩) hH ?r17
        case c17 => (intro w' _; go_simp; (try with_reducible rfl))
        try simp only [Act.put, List.setIfInBounds_toArray, List.set_cons_zero, List.set_cons_succ]
        refine wpAnyH_ready (rs := [16]) (by kernel_rfl) (by simp) (AllReadyH.cons rfl (fun K hK => ?_) (AllReadyH.nil))
        go_simp
        have HP := hH.2.2.out
        refine hK.out _ _ (RS.alloc HK hH _) (fun hH => ?_)
        clear hK K
        obtain ⟨g, hgs⟩ : ∃ g, w13.heap.size = g := ⟨_, rfl⟩
        have hge : w3.heap.size ≤ g := by rw [← hgs]; exact HP.1.size
        have hg77 : (w13.alloc (.cells #[] 5)).heap[w13.heap.size]? = some (.cells #[] 5 (0, 0)) := heap_alloc_new w13 _
        rw [hgs] at hg77 ⊢
        clear hgs
        generalize w13.alloc (.cells #[] 5) = w16 at hg77 hH ⊢
        try simp only [Act.put, List.setIfInBounds_toArray, List.set_cons_zero, List.set_cons_succ]
        refine wpAnyH_ready (rs := [21]) (by kernel_rfl) (by simp) (AllReadyH.cons rfl (fun K hK => ?_) (AllReadyH.nil))
        refine step_append_bts rfl (.tmp 77) (.tmp 81) _ rfl g 5 i0 Tryd.underlying22 hi0 hz0 hz1 hz2 _ 0 [] rfl (own_empty hg77) B (if c = hs bs then some ⟨b, off, none⟩ else some ⟨b, off + hs bs, none⟩) (tl bs - hs bs) (c - hs bs) (body bs) rfl (HBD.out _ (RB.bts HK hH.2.2) _ (fun h => if_neg (by have := HM.out; omega))) (by omega) (Nat.le_of_lt (Array.getElem?_eq_some_iff.1 hg77).1) ?_
        intro A9 c9 w9 ho9 hg9 hc9
        simp only [Nat.zero_add, List.nil_append] at ho9 hc9 ⊢
        refine hK.out _ _ (RS.grown HK hH hge hg9) (fun hH => ?_)
        clear hK K
        obtain ⟨ha9, hb9, hc9', hd9, he9, hf9, hh9, HX9⟩ := RB.open hH.2.2
        obtain ⟨z0, z1, z2, z3, z4, z5, z6⟩ := HX9.out.cells
        obtain ⟨f0, f1, f2, f3, f4, f5, f6⟩ := HX9.out.frozen
        have HO9 := Lib.hid ho9
        clear ho9 hg9 hg77
        try simp only [Act.put, List.setIfInBounds_toArray, List.set_cons_zero, List.set_cons_succ]
        refine wpAnyH_ready (rs := [22]) (by kernel_rfl) (by simp) (AllReadyH.cons rfl (fun K hK => ?_) (AllReadyH.nil))
        go_simp
        refine hK.out _ _ (RS.store HK hH _ _ _ _ _ _ _) (fun hH => ?_)
        clear hK K
        clear z0 z1 z2 z3 z4 z5 z6 f0 f1 f2 f3 f4 f5 f6
        try simp only [Act.put, List.setIfInBounds_toArray, List.set_cons_zero, List.set_cons_succ]
        refine wpAnyH_take (i := 23) (oi := ⟨some 3, _, _, _, _, _⟩) (v := ?v18) rfl (by kernel_rfl) (by kernel_rfl) (by kernel_rfl) (fun _ _ _ h => h) (Or.inl ⟨rfl, ?c18⟩) hH ?r18
        case c18 => (intro w' _; go_simp; (try with_reducible rfl))
        try simp only [Act.put, List.setIfInBounds_toArray, List.set_cons_zero, List.set_cons_succ]
        refine wpAnyH_take (i := 24) (oi := ⟨some 4, _, _, _, _, _⟩) (v := ?v19) rfl (by kernel_rfl) (by kernel_rfl) (by kernel_rfl) (fun _ _ _ h => h) (Or.inl ⟨rfl, ?c19⟩) hH ?r19
        case c19 => (intro w' _; go_simp; (try with_reducible rfl))
        try simp only [Act.put, List.setIfInBounds_toArray, List.set_cons_zero, List.set_cons_succ]
        refine wpAnyH_done (by kernel_rfl) ?_ _
        go_wp2_with fail
        all_goals
          have hbt := bts_of_own (own_store7 HK hge HO9.out (byt bs 9) (four bs 12) (four bs 16) (hs bs) (tl bs) (byt bs 8) (word bs 4)) rfl
          obtain ⟨r0, r1, r2, r3, r4, r5, r6⟩ := (HX9.out.store (byt bs 9) (four bs 12) (four bs 16) (hs bs) (tl bs) (byt bs 8) (word bs 4)).cells
          exact bodyPost_ret (v := .tuple #[headV bs, .slice A9 (tl bs - hs bs) c9, .int .i64 0]) (by simp [results, Tryd.results14, go_sem, r0, r1, r2, r3, r4, r5, r6]) rfl
            ⟨A9, c9, rfl, hbt, hc9, RB.bel HK hH.2.2⟩
      · go_simp
        have HP := hH.2.2.out
        refine hK.out _ _ (RS.alloc HK hH _) (fun hH => ?_)
        clear hK K
        obtain ⟨g, hgs⟩ : ∃ g, w6.heap.size = g := ⟨_, rfl⟩
        have hge : w3.heap.size ≤ g := by rw [← hgs]; exact HP.1.size
        have hg77 : (w6.alloc (.cells #[] 5)).heap[w6.heap.size]? = some (.cells #[] 5 (0, 0)) := heap_alloc_new w6 _
        rw [hgs] at hg77 ⊢
        clear hgs
        generalize w6.alloc (.cells #[] 5) = w16 at hg77 hH ⊢
        try simp only [Act.put, List.setIfInBounds_toArray, List.set_cons_zero, List.set_cons_succ]
        refine wpAnyH_ready (rs := [13]) (by kernel_rfl) (by simp) (AllReadyH.cons rfl (fun K hK => ?_) (AllReadyH.nil))
        go_simp
        go_at_call 25
        refine (T4.out _ hH).mono ?_
        rintro e w13 ⟨rfl, hS, hh⟩
        refine hK.out _ _ (hS) (fun hH => ?_)
        clear hK K
        rw [← hh] at hg77
        clear hS hh
        try simp only [Act.put, List.setIfInBounds_toArray, List.set_cons_zero, List.set_cons_succ]
        refine wpAnyH_take (i := 14) (oi := ⟨some 75, _, _, _, _, _⟩) (v := ?v20) rfl (by kernel_rfl) (by kernel_rfl) (by kernel_rfl) (fun _ _ _ h => h) (Or.inl ⟨rfl, ?c20⟩) hH ?r20
        case c20 => (intro w' _; go_simp; (try with_reducible rfl))
        try simp only [Act.put, List.setIfInBounds_toArray, List.set_cons_zero, List.set_cons_succ]
        refine wpAnyH_take (i := 15) (oi := ⟨some 76, _, _, _, _, _⟩) (v := ?v21) rfl (by kernel_rfl) (by kernel_rfl) (by kernel_rfl) (fun _ _ _ h => h) (Or.inl ⟨rfl, ?c21⟩) hH ?r21
        case c21 => (intro w' _; go_simp; (try with_reducible rfl))
        try simp only [Act.put, List.setIfInBounds_toArray, List.set_cons_zero, List.set_cons_succ]
        refine wpAnyH_ready (rs := [21]) (by kernel_rfl) (by simp) (AllReadyH.cons rfl (fun K hK => ?_) (AllReadyH.nil))
        refine step_append_bts rfl (.tmp 77) (.tmp 81) _ rfl g 5 i0 Tryd.underlying22 hi0 hz0 hz1 hz2 _ 0 [] rfl (own_empty hg77) B (if c = hs bs then some ⟨b, off, none⟩ else some ⟨b, off + hs bs, none⟩) (tl bs - hs bs) (c - hs bs) (body bs) rfl (HBD.out _ (RB.bts HK hH.2.2) _ (fun h => if_neg (by have := HM.out; omega))) (by omega) (Nat.le_of_lt (Array.getElem?_eq_some_iff.1 hg77).1) ?_
        intro A9 c9 w9 ho9 hg9 hc9
        simp only [Nat.zero_add, List.nil_append] at ho9 hc9 ⊢
        refine hK.out _ _ (RS.grown HK hH hge hg9) (fun hH => ?_)
        clear hK K
        obtain ⟨ha9, hb9, hc9', hd9, he9, hf9, hh9, HX9⟩ := RB.open hH.2.2
        obtain ⟨z0, z1, z2, z3, z4, z5, z6⟩ := HX9.out.cells
        obtain ⟨f0, f1, f2, f3, f4, f5, f6⟩ := HX9.out.frozen
        have HO9 := Lib.hid ho9
        clear ho9 hg9 hg77
        try simp only [Act.put, List.setIfInBounds_toArray, List.set_cons_zero, List.set_cons_succ]
        refine wpAnyH_ready (rs := [22]) (by kernel_rfl) (by simp) (AllReadyH.cons rfl (fun K hK => ?_) (AllReadyH.nil))
        go_simp
        refine hK.out _ _ (RS.store HK hH _ _ _ _ _ _ _) (fun hH => ?_)
        clear hK K
        clear z0 z1 z2 z3 z4 z5 z6 f0 f1 f2 f3 f4 f5 f6
        try simp only [Act.put, List.setIfInBounds_toArray, List.set_cons_zero, List.set_cons_succ]
        refine wpAnyH_take (i := 23) (oi := ⟨some 3, _, _, _, _, _⟩) (v := ?v22) rfl (by kernel_rfl) (by kernel_rfl) (by kernel_rfl) (fun _ _ _ h => h) (Or.inl ⟨rfl, ?c22⟩) hH ?r22
        case c22 => (intro w' _; go_simp; (try with_reducible rfl))
        try simp only [Act.put, List.setIfInBounds_toArray, List.set_cons_zero, List.set_cons_succ]
        refine wpAnyH_take (i := 24) (oi := ⟨some 4, _, _, _, _, _⟩) (v := ?v23) rfl (by kernel_rfl) (by kernel_rfl) (by kernel_rfl) (fun _ _ _ h => h) (Or.inl ⟨rfl, ?c23⟩) hH ?r23
        case c23 => (intro w' _; go_simp; (try with_reducible rfl))
        try simp only [Act.put, List.setIfInBounds_toArray, List.set_cons_zero, List.set_cons_succ]
        refine wpAnyH_done (by kernel_rfl) ?_ _
        go_wp2_with fail
        all_goals
          have hbt := bts_of_own (own_store7 HK hge HO9.out (byt bs 9) (four bs 12) (four bs 16) (hs bs) (tl bs) (byt bs 8) (word bs 4)) rfl
          obtain ⟨r0, r1, r2, r3, r4, r5, r6⟩ := (HX9.out.store (byt bs 9) (four bs 12) (four bs 16) (hs bs) (tl bs) (byt bs 8) (word bs 4)).cells
          exact bodyPost_ret (v := .tuple #[headV bs, .slice A9 (tl bs - hs bs) c9, .int .i64 0]) (by simp [results, Tryd.results14, go_sem, r0, r1, r2, r3, r4, r5, r6]) rfl
            ⟨A9, c9, rfl, hbt, hc9, RB.bel HK hH.2.2⟩
    · go_simp
      have HP := hH.2.2.out
      refine hK.out _ _ (RS.alloc HK hH _) (fun hH => ?_)
      clear hK K
      obtain ⟨g, hgs⟩ : ∃ g, w4.heap.size = g := ⟨_, rfl⟩
      have hge : w3.heap.size ≤ g := by rw [← hgs]; exact HP.1.size
      have hg77 : (w4.alloc (.cells #[] 5)).heap[w4.heap.size]? = some (.cells #[] 5 (0, 0)) := heap_alloc_new w4 _
      rw [hgs] at hg77 ⊢
      clear hgs
      generalize w4.alloc (.cells #[] 5) = w16 at hg77 hH ⊢
      try simp only [Act.put, List.setIfInBounds_toArray, List.set_cons_zero, List.set_cons_succ]
      refine wpAnyH_ready (rs := [6]) (by kernel_rfl) (by simp) (AllReadyH.cons rfl (fun K hK => ?_) (AllReadyH.nil))
      go_simp
      go_at_call 27
      refine (U16.out _ hH).mono ?_
      rintro e w6 ⟨rfl, hS, hh⟩
      refine hK.out _ _ (hS) (fun hH => ?_)
      clear hK K
      rw [← hh] at hg77
      clear hS hh
      try simp only [Act.put, List.setIfInBounds_toArray, List.set_cons_zero, List.set_cons_succ]
      refine wpAnyH_ready (rs := [13]) (by kernel_rfl) (by simp) (AllReadyH.cons rfl (fun K hK => ?_) (AllReadyH.nil))
      go_simp
      go_at_call 25
      refine (T4.out _ hH).mono ?_
      rintro e w13 ⟨rfl, hS, hh⟩
      refine hK.out _ _ (hS) (fun hH => ?_)
      clear hK K
      rw [← hh] at hg77
      clear hS hh
      try simp only [Act.put, List.setIfInBounds_toArray, List.set_cons_zero, List.set_cons_succ]
      refine wpAnyH_take (i := 14) (oi := ⟨some 75, _, _, _, _, _⟩) (v := ?v24) rfl (by kernel_rfl) (by kernel_rfl) (by kernel_rfl) (fun _ _ _ h => h) (Or.inl ⟨rfl, ?c24⟩) hH ?r24
      case c24 => (intro w' _; go_simp; (try with_reducible rfl))
      try simp only [Act.put, List.setIfInBounds_toArray, List.set_cons_zero, List.set_cons_succ]
      refine wpAnyH_take (i := 15) (oi := ⟨some 76, _, _, _, _, _⟩) (v := ?v25) rfl (by kernel_rfl) (by kernel_rfl) (by kernel_rfl) (fun _ _ _ h => h) (Or.inl ⟨rfl, ?c25⟩) hH ?r25
      case c25 => (intro w' _; go_simp; (try with_reducible rfl))
      try simp only [Act.put, List.setIfInBounds_toArray, List.set_cons_zero, List.set_cons_succ]
      refine wpAnyH_ready (rs := [21]) (by kernel_rfl) (by simp) (AllReadyH.cons rfl (fun K hK => ?_) (AllReadyH.nil))
      refine step_append_bts rfl (.tmp 77) (.tmp 81) _ rfl g 5 i0 Tryd.underlying22 hi0 hz0 hz1 hz2 _ 0 [] rfl (own_empty hg77) B (if c = hs bs then some ⟨b, off, none⟩ else some ⟨b, off + hs bs, none⟩) (tl bs - hs bs) (c - hs bs) (body bs) rfl (HBD.out _ (RB.bts HK hH.2.2) _ (fun h => if_neg (by have := HM.out; omega))) (by omega) (Nat.le_of_lt (Array.getElem?_eq_some_iff.1 hg77).1) ?_
      intro A9 c9 w9 ho9 hg9 hc9
      simp only [Nat.zero_add, List.nil_append] at ho9 hc9 ⊢
      refine hK.out _ _ (RS.grown HK hH hge hg9) (fun hH => ?_)
      clear hK K
      obtain ⟨ha9, hb9, hc9', hd9, he9, hf9, hh9, HX9⟩ := RB.open hH.2.2
      obtain ⟨z0, z1, z2, z3, z4, z5, z6⟩ := HX9.out.cells
      obtain ⟨f0, f1, f2, f3, f4, f5, f6⟩ := HX9.out.frozen
      have HO9 := Lib.hid ho9
      clear ho9 hg9 hg77
      try simp only [Act.put, List.setIfInBounds_toArray, List.set_cons_zero, List.set_cons_succ]
      refine wpAnyH_ready (rs := [22]) (by kernel_rfl) (by simp) (AllReadyH.cons rfl (fun K hK => ?_) (AllReadyH.nil))
      go_simp
      refine hK.out _ _ (RS.store HK hH _ _ _ _ _ _ _) (fun hH => ?_)
      clear hK K
      clear z0 z1 z2 z3 z4 z5 z6 f0 f1 f2 f3 f4 f5 f6
      try simp only [Act.put, List.setIfInBounds_toArray, List.set_cons_zero, List.set_cons_succ]
      refine wpAnyH_take (i := 23) (oi := ⟨some 3, _, _, _, _, _⟩) (v := ?v26) rfl (by kernel_rfl) (by kernel_rfl) (by kernel_rfl) (fun _ _ _ h => h) (Or.inl ⟨rfl, ?c26⟩) hH ?r26
      case c26 => (intro w' _; go_simp; (try with_reducible rfl))
      try simp only [Act.put, List.setIfInBounds_toArray, List.set_cons_zero, List.set_cons_succ]
      refine wpAnyH_take (i := 24) (oi := ⟨some 4, _, _, _, _, _⟩) (v := ?v27) rfl (by kernel_rfl) (by kernel_rfl) (by kernel_rfl) (fun _ _ _ h => h) (Or.inl ⟨rfl, ?c27⟩) hH ?r27
      case c27 => (intro w' _; go_simp; (try with_reducible rfl))
      try simp only [Act.put, List.setIfInBounds_toArray, List.set_cons_zero, List.set_cons_succ]
      refine wpAnyH_done (by kernel_rfl) ?_ _
      go_wp2_with fail
      all_goals
        have hbt := bts_of_own (own_store7 HK hge HO9.out (byt bs 9) (four bs 12) (four bs 16) (hs bs) (tl bs) (byt bs 8) (word bs 4)) rfl
        obtain ⟨r0, r1, r2, r3, r4, r5, r6⟩ := (HX9.out.store (byt bs 9) (four bs 12) (four bs 16) (hs bs) (tl bs) (byt bs 8) (word bs 4)).cells
        exact bodyPost_ret (v := .tuple #[headV bs, .slice A9 (tl bs - hs bs) c9, .int .i64 0]) (by simp [results, Tryd.results14, go_sem, r0, r1, r2, r3, r4, r5, r6]) rfl
          ⟨A9, c9, rfl, hbt, hc9, RB.bel HK hH.2.2⟩
  · go_simp
    refine hK.out _ _ (RS.alloc HK hH _) (fun hH => ?_)
    clear hK K
    obtain ⟨g, hgs⟩ : ∃ g, w3.heap.size = g := ⟨_, rfl⟩
    have hge : w3.heap.size ≤ g := by rw [← hgs]; exact Nat.le_refl _
    have hg77 : ((w3.alloc (.cells #[] 5)).drew).heap[w3.heap.size]? = some (.cells #[] 5 (0, 0)) := heap_alloc_new w3 _
    rw [hgs] at hg77 ⊢
    clear hgs
    generalize (w3.alloc (.cells #[] 5)).drew = w16 at hg77 hH ⊢
    try simp only [Act.put, List.setIfInBounds_toArray, List.set_cons_zero, List.set_cons_succ]
    refine wpAnyH_ready (rs := [4]) (by kernel_rfl) (by simp) (AllReadyH.cons rfl (fun K hK => ?_) (AllReadyH.nil))
    go_simp
    go_at_call 27
    refine (U12.out _ hH).mono ?_
    rintro e w4 ⟨rfl, hS, hh⟩
    refine hK.out _ _ (hS) (fun hH => ?_)
    clear hK K
    rw [← hh] at hg77
    clear hS hh
    try simp only [Act.put, List.setIfInBounds_toArray, List.set_cons_zero, List.set_cons_succ]
    refine wpAnyH_ready (rs := [6]) (by kernel_rfl) (by simp) (AllReadyH.cons rfl (fun K hK => ?_) (AllReadyH.nil))
    go_simp
    go_at_call 27
    refine (U16.out _ hH).mono ?_
    rintro e w6 ⟨rfl, hS, hh⟩
    refine hK.out _ _ (hS) (fun hH => ?_)
    clear hK K
    rw [← hh] at hg77
    clear hS hh
    try simp only [Act.put, List.setIfInBounds_toArray, List.set_cons_zero, List.set_cons_succ]
    refine wpAnyH_ready (rs := [13]) (by kernel_rfl) (by simp) (AllReadyH.cons rfl (fun K hK => ?_) (AllReadyH.nil))
    go_simp
    go_at_call 25
    refine (T4.out _ hH).mono ?_
    rintro e w13 ⟨rfl, hS, hh⟩
    refine hK.out _ _ (hS) (fun hH => ?_)
    clear hK K
    rw [← hh] at hg77
    clear hS hh
    try simp only [Act.put, List.setIfInBounds_toArray, List.set_cons_zero, List.set_cons_succ]
    refine wpAnyH_take (i := 14) (oi := ⟨some 75, _, _, _, _, _⟩) (v := ?v28) rfl (by kernel_rfl) (by kernel_rfl) (by kernel_rfl) (fun _ _ _ h => h) (Or.inl ⟨rfl, ?c28⟩) hH ?r28
    case c28 => (intro w' _; go_simp; (try with_reducible rfl))
    try simp only [Act.put, List.setIfInBounds_toArray, List.set_cons_zero, List.set_cons_succ]
    refine wpAnyH_take (i := 15) (oi := ⟨some 76, _, _, _, _, _⟩) (v := ?v29) rfl (by kernel_rfl) (by kernel_rfl) (by kernel_rfl) (fun _ _ _ h => h) (Or.inl ⟨rfl, ?c29⟩) hH ?r29
    case c29 => (intro w' _; go_simp; (try with_reducible rfl))
    try simp only [Act.put, List.setIfInBounds_toArray, List.set_cons_zero, List.set_cons_succ]
    refine wpAnyH_ready (rs := [21]) (by kernel_rfl) (by simp) (AllReadyH.cons rfl (fun K hK => ?_) (AllReadyH.nil))
    refine step_append_bts rfl (.tmp 77) (.tmp 81) _ rfl g 5 i0 Tryd.underlying22 hi0 hz0 hz1 hz2 _ 0 [] rfl (own_empty hg77) B (if c = hs bs then some ⟨b, off, none⟩ else some ⟨b, off + hs bs, none⟩) (tl bs - hs bs) (c - hs bs) (body bs) rfl (HBD.out _ (RB.bts HK hH.2.2) _ (fun h => if_neg (by have := HM.out; omega))) (by omega) (Nat.le_of_lt (Array.getElem?_eq_some_iff.1 hg77).1) ?_
    intro A9 c9 w9 ho9 hg9 hc9
    simp only [Nat.zero_add, List.nil_append] at ho9 hc9 ⊢
    refine hK.out _ _ (RS.grown HK hH hge hg9) (fun hH => ?_)
    clear hK K
    obtain ⟨ha9, hb9, hc9', hd9, he9, hf9, hh9, HX9⟩ := RB.open hH.2.2
    obtain ⟨z0, z1, z2, z3, z4, z5, z6⟩ := HX9.out.cells
    obtain ⟨f0, f1, f2, f3, f4, f5, f6⟩ := HX9.out.frozen
    have HO9 := Lib.hid ho9
    clear ho9 hg9 hg77
    try simp only [Act.put, List.setIfInBounds_toArray, List.set_cons_zero, List.set_cons_succ]
    refine wpAnyH_ready (rs := [22]) (by kernel_rfl) (by simp) (AllReadyH.cons rfl (fun K hK => ?_) (AllReadyH.nil))
    go_simp
    refine hK.out _ _ (RS.store HK hH _ _ _ _ _ _ _) (fun hH => ?_)
    clear hK K
    clear z0 z1 z2 z3 z4 z5 z6 f0 f1 f2 f3 f4 f5 f6
    try simp only [Act.put, List.setIfInBounds_toArray, List.set_cons_zero, List.set_cons_succ]
    refine wpAnyH_take (i := 23) (oi := ⟨some 3, _, _, _, _, _⟩) (v := ?v30) rfl (by kernel_rfl) (by kernel_rfl) (by kernel_rfl) (fun _ _ _ h => h) (Or.inl ⟨rfl, ?c30⟩) hH ?r30
    case c30 => (intro w' _; go_simp; (try with_reducible rfl))
    try simp only [Act.put, List.setIfInBounds_toArray, List.set_cons_zero, List.set_cons_succ]
    refine wpAnyH_take (i := 24) (oi := ⟨some 4, _, _, _, _, _⟩) (v := ?v31) rfl (by kernel_rfl) (by kernel_rfl) (by kernel_rfl) (fun _ _ _ h => h) (Or.inl ⟨rfl, ?c31⟩) hH ?r31
    case c31 => (intro w' _; go_simp; (try with_reducible rfl))
    try simp only [Act.put, List.setIfInBounds_toArray, List.set_cons_zero, List.set_cons_succ]
    refine wpAnyH_done (by kernel_rfl) ?_ _
    go_wp2_with fail
    all_goals
      have hbt := bts_of_own (own_store7 HK hge HO9.out (byt bs 9) (four bs 12) (four bs 16) (hs bs) (tl bs) (byt bs 8) (word bs 4)) rfl
      obtain ⟨r0, r1, r2, r3, r4, r5, r6⟩ := (HX9.out.store (byt bs 9) (four bs 12) (four bs 16) (hs bs) (tl bs) (byt bs 8) (word bs 4)).cells
      exact bodyPost_ret (v := .tuple #[headV bs, .slice A9 (tl bs - hs bs) c9, .int .i64 0]) (by simp [results, Tryd.results14, go_sem, r0, r1, r2, r3, r4, r5, r6]) rfl
        ⟨A9, c9, rfl, hbt, hc9, RB.bel HK hH.2.2⟩

end Ip
end Go.Proofs.YtjbdjplliieelaaDoor
