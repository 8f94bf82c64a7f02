/- Layer 8: the walk of WireBehind. -/
import Derived.Test.YtjbdjplliieelaaDoorWirP
import Derived.Test.YtjbdjplliieelaaDoorComV
set_option linter.unusedVariables false
set_option linter.unusedSimpArgs false
namespace Go.Proofs.YtjbdjplliieelaaDoor
open Go.ChangeShapes Go.WideShapes Go.ChangeAt Go.RowKit Go.Mtl
namespace Wi
open IpM (word four hs tl tl_lt word_lt four_lt errC errN body)
open WirM (errW errW_le spN dpN flN kdN pk0)
open Ip (Row u8_info own_bts)

set_option maxHeartbeats 4000000 in
theorem wireBehind_bad (A : Option Addr) (n c m : Nat) (A2 : Option Addr) (n2 c2 m2 : Nat) (bs ys : List UInt8) (W : World) (hmc : m ≤ c) (hm : c ≤ 9223372036854775807) (hmc2 : m2 ≤ c2) (hm2 : c2 ≤ 9223372036854775807) (hm6 : m ≤ 1600) (hm62 : m2 ≤ 1600)
    (hsh : ∀ W, Calls Tryd.prog 7 #[.slice A n c] W fun e w' => e = .returned (.slice A m c) ∧ W = w')
    (hsh2 : ∀ W, Calls Tryd.prog 7 #[.slice A2 n2 c2] W fun e w' => e = .returned (.slice A2 m2 c2) ∧ W = w') (hb : Bts W W.heap.size A m bs) (hy : Bts W W.heap.size A2 m2 ys) (he : Tc.Env W) (h0 : errW bs ≠ 0) :
    Calls Tryd.prog 5 #[.slice A n c, .slice A2 n2 c2] W fun e w' => e = .returned (.bool true) ∧ Below W.heap.size W w' := by
  obtain ⟨i0, hi0, hz0, hz1, hz2⟩ := info_parts u8_info
  have H0 := Lib.hid hsh
  have H2 := Lib.hid hsh2
  have HB := Lib.hid hb
  have HY := Lib.hid hy
  have HE := Lib.hid he
  have hl1 := hb.len
  have hl2 := hy.len
  obtain ⟨L, hL⟩ : ∃ L, m + m2 = L := ⟨_, rfl⟩
  have HLL := Lib.hid hL
  have hL2 : L ≤ 3200 := by omega
  have P1 := Lib.hid (fun W' (hb : Bts W' W.heap.size A m bs) h he => parse_any A m c bs W.heap.size W' hb h hmc hm he)
  have hV := wV_bad h0
  rw [hV] at P1
  have d : ((errW bs : Int) != 0) = true := by simp; omega
  generalize errW bs = er at P1 d hV
  clear hsh hsh2 hb hy he hL hl1 hl2 hV h0
  go_enter Tryd.func5, Tryd.ntmps5
  go_wp2_with (go_at_call 7; refine (H0.out _).mono ?_; rintro e w' ⟨rfl, rfl⟩)
  go_at_call 6
  refine (P1.out _ HB.out (Nat.le_refl _) HE.out).mono ?_
  rintro e w1 ⟨rfl, hb1⟩
  have hbx := (Below.refl _ w1).alloc (Nat.le_refl _) (.cells (pkt 0 0 0 0 0 0 0) 26)
  have HX1 := Lib.hid (Pk.box w1 0 0 0 0 0 0 0)
  have HP1 := Lib.hid (Pk.box w1 0 0 0 0 0 0 0)
  have HE1 := Lib.hid ((HE.out.below hb1 (Nat.le_refl _)).below hbx (Nat.le_refl _))
  have HB1 := Lib.hid (hb1.trans (hbx.mono hb1.size))
  clear hb1 hbx HE
  obtain ⟨x0, x1, x2, x3, x4, x5, x6⟩ := HX1.out.cells
  obtain ⟨g0, g1, g2, g3, g4, g5, g6⟩ := HX1.out.frozen
  go_wp2_with (first
      | (refine at_slot 20 ?_
         refine wpList_append_new rfl (.tmp 18) (.tmp 19) _ rfl 5 i0 Tryd.underlying22 hi0 hz0 hz1 hz2 (by rw [World.size_alloc]; rfl) W.heap.size A m c _ rfl (HB.out.below HB1.out) HB1.out.size (by omega) ?_
         intro A3 c3 w3 ho3 hb3 hc3
         have HO3 := Lib.hid ho3
         have HB3 := Lib.hid hb3
         clear ho3 hb3 hc3 x0 x1 x2 x3 x4 x5 x6 g0 g1 g2 g3 g4 g5 g6)
      | (go_at_call 7; refine (H2.out _).mono ?_; rintro e w' ⟨rfl, rfl⟩)
      | (refine at_slot 23 ?_
         refine wpList_append_hid (W0 := w1.alloc (.cells (pkt 0 0 0 0 0 0 0) 26)) L rfl (.tmp 20) (.tmp 22) _ rfl 5 i0 Tryd.underlying22 hi0 hz0 hz1 hz2 _ m _ rfl HO3.out HB3.out W.heap.size A2 m2 c2 ys rfl (HY.out.below (HB1.out.trans (HB3.out.mono HB1.out.size))) HLL.out (by omega) ?_
         intro A4 c4 w4 HO4 HB4 _ HC4
         clear HO3 HB3))
  have HP4 := Lib.hid (HP1.out.next HB4.out)
  have HE4 := Lib.hid (HE1.out.below HB4.out (Nat.le_refl _))
  have HB5 := Lib.hid (HB1.out.trans (HB4.out.mono HB1.out.size))
  clear HP1 HE1 HB1 HO4 HB4 HC4
  go_at_call 9
  refine (awake_any _ HE4.out).mono ?_
  rintro e w5 ⟨rfl, hb5⟩
  have HB6 := Lib.hid (HB5.out.trans (hb5.mono HB5.out.size))
  clear hb5 HP4 HE4 HB5
  go_wp2_with fail
  go_ret
  exact ⟨rfl, HB6.out⟩

theorem wV_app {bs ys : List UInt8} (h0 : errW bs = 0) (hl : bs.length + ys.length ≤ 1500) : wV (bs ++ ys) = wV bs := by
  obtain ⟨e0, e1, e2, e3, e4, e5, e6, e7⟩ := WirM.behind ys h0 hl
  rw [wV_ok h0, wV_ok e0]
  unfold okV packV
  rw [e1, e2, e3, e4, e5, e6, e7]
theorem okV_is {bs : List UInt8} (h0 : errW bs = 0) : ∃ a b c d e f h : Int, wV bs = .tuple #[.agg (pkt a b c d e f h), .int .i64 0] := ⟨_, _, _, _, _, _, _, wV_ok h0⟩

set_option maxHeartbeats 4000000 in
theorem wireBehind_long (A : Option Addr) (n c m : Nat) (A2 : Option Addr) (n2 c2 m2 : Nat) (bs ys : List UInt8) (W : World) (hmc : m ≤ c) (hm : c ≤ 9223372036854775807) (hmc2 : m2 ≤ c2) (hm2 : c2 ≤ 9223372036854775807) (hm6 : m ≤ 1600) (hm62 : m2 ≤ 1600)
    (hsh : ∀ W, Calls Tryd.prog 7 #[.slice A n c] W fun e w' => e = .returned (.slice A m c) ∧ W = w')
    (hsh2 : ∀ W, Calls Tryd.prog 7 #[.slice A2 n2 c2] W fun e w' => e = .returned (.slice A2 m2 c2) ∧ W = w') (hb : Bts W W.heap.size A m bs) (hy : Bts W W.heap.size A2 m2 ys) (he : Tc.Env W) (h0 : errW bs = 0) (hlong : 1500 < m + m2) :
    Calls Tryd.prog 5 #[.slice A n c, .slice A2 n2 c2] W fun e w' => e = .returned (.bool true) ∧ Below W.heap.size W w' := by
  obtain ⟨i0, hi0, hz0, hz1, hz2⟩ := info_parts u8_info
  have H0 := Lib.hid hsh
  have H2 := Lib.hid hsh2
  have HB := Lib.hid hb
  have HY := Lib.hid hy
  have HE := Lib.hid he
  have hl1 := hb.len
  have hl2 := hy.len
  obtain ⟨L, hL⟩ : ∃ L, m + m2 = L := ⟨_, rfl⟩
  have HLL := Lib.hid hL
  have hL2 : L ≤ 3200 := by omega
  have P1 := Lib.hid (fun W' (hb : Bts W' W.heap.size A m bs) h he => parse_any A m c bs W.heap.size W' hb h hmc hm he)
  obtain ⟨va, vb, vc, vd, ve, vf, vh, hV⟩ := okV_is h0
  rw [hV] at P1
  have hd : (1500 : Int) < L := by omega
  clear hlong
  clear hsh hsh2 hb hy he hL hl1 hl2 hV h0
  go_enter Tryd.func5, Tryd.ntmps5
  go_wp2_with (go_at_call 7; refine (H0.out _).mono ?_; rintro e w' ⟨rfl, rfl⟩)
  go_at_call 6
  refine (P1.out _ HB.out (Nat.le_refl _) HE.out).mono ?_
  rintro e w1 ⟨rfl, hb1⟩
  have hbx := (Below.refl _ w1).alloc (Nat.le_refl _) (.cells (pkt va vb vc vd ve vf vh) 26)
  have HX1 := Lib.hid (Pk.box w1 0 0 0 0 0 0 0)
  have HP1 := Lib.hid (Pk.box w1 va vb vc vd ve vf vh)
  have HE1 := Lib.hid ((HE.out.below hb1 (Nat.le_refl _)).below hbx (Nat.le_refl _))
  have HB1 := Lib.hid (hb1.trans (hbx.mono hb1.size))
  clear hb1 hbx HE
  obtain ⟨x0, x1, x2, x3, x4, x5, x6⟩ := HX1.out.cells
  obtain ⟨g0, g1, g2, g3, g4, g5, g6⟩ := HX1.out.frozen
  go_wp2_with (first
      | (refine at_slot 20 ?_
         refine wpList_append_new rfl (.tmp 18) (.tmp 19) _ rfl 5 i0 Tryd.underlying22 hi0 hz0 hz1 hz2 (by rw [World.size_alloc]; rfl) W.heap.size A m c _ rfl (HB.out.below HB1.out) HB1.out.size (by omega) ?_
         intro A3 c3 w3 ho3 hb3 hc3
         have HO3 := Lib.hid ho3
         have HB3 := Lib.hid hb3
         clear ho3 hb3 hc3 x0 x1 x2 x3 x4 x5 x6 g0 g1 g2 g3 g4 g5 g6)
      | (go_at_call 7; refine (H2.out _).mono ?_; rintro e w' ⟨rfl, rfl⟩)
      | (refine at_slot 23 ?_
         refine wpList_append_hid (W0 := w1.alloc (.cells (pkt va vb vc vd ve vf vh) 26)) L rfl (.tmp 20) (.tmp 22) _ rfl 5 i0 Tryd.underlying22 hi0 hz0 hz1 hz2 _ m _ rfl HO3.out HB3.out W.heap.size A2 m2 c2 ys rfl (HY.out.below (HB1.out.trans (HB3.out.mono HB1.out.size))) HLL.out (by omega) ?_
         intro A4 c4 w4 HO4 HB4 _ HC4
         clear HO3 HB3))
  have HP4 := Lib.hid (HP1.out.next HB4.out)
  have HE4 := Lib.hid (HE1.out.below HB4.out (Nat.le_refl _))
  have HB5 := Lib.hid (HB1.out.trans (HB4.out.mono HB1.out.size))
  clear HP1 HE1 HB1 HO4 HB4 HC4
  go_at_call 9
  refine (awake_any _ HE4.out).mono ?_
  rintro e w5 ⟨rfl, hb5⟩
  have HB6 := Lib.hid (HB5.out.trans (hb5.mono HB5.out.size))
  clear hb5 HP4 HE4 HB5
  go_wp2_with fail
  go_ret
  exact ⟨rfl, HB6.out⟩

set_option maxHeartbeats 4000000 in
theorem wireBehind_ok (A : Option Addr) (n c m : Nat) (A2 : Option Addr) (n2 c2 m2 : Nat) (bs ys : List UInt8) (W : World) (hmc : m ≤ c) (hm : c ≤ 9223372036854775807) (hmc2 : m2 ≤ c2) (hm2 : c2 ≤ 9223372036854775807) (hm6 : m ≤ 1600) (hm62 : m2 ≤ 1600)
    (hsh : ∀ W, Calls Tryd.prog 7 #[.slice A n c] W fun e w' => e = .returned (.slice A m c) ∧ W = w')
    (hsh2 : ∀ W, Calls Tryd.prog 7 #[.slice A2 n2 c2] W fun e w' => e = .returned (.slice A2 m2 c2) ∧ W = w') (hb : Bts W W.heap.size A m bs) (hy : Bts W W.heap.size A2 m2 ys) (he : Tc.Env W) (h0 : errW bs = 0) (hlong : ¬ 1500 < m + m2) :
    Calls Tryd.prog 5 #[.slice A n c, .slice A2 n2 c2] W fun e w' => e = .returned (.bool true) ∧ Below W.heap.size W w' := by
  obtain ⟨i0, hi0, hz0, hz1, hz2⟩ := info_parts u8_info
  have H0 := Lib.hid hsh
  have H2 := Lib.hid hsh2
  have HB := Lib.hid hb
  have HY := Lib.hid hy
  have HE := Lib.hid he
  have hl1 := hb.len
  have hl2 := hy.len
  obtain ⟨L, hL⟩ : ∃ L, m + m2 = L := ⟨_, rfl⟩
  have HLL := Lib.hid hL
  have hL2 : L ≤ 3200 := by omega
  have P1 := Lib.hid (fun W' (hb : Bts W' W.heap.size A m bs) h he => parse_any A m c bs W.heap.size W' hb h hmc hm he)
  obtain ⟨va, vb, vc, vd, ve, vf, vh, hV⟩ := okV_is h0
  have P2 := Lib.hid (fun A' c' W' B (hb : Bts W' B A' L (bs ++ ys)) hB hc hm he => parse_any A' L c' (bs ++ ys) B W' hb hB hc hm he)
  rw [wV_app h0 (by omega), hV] at P2
  rw [hV] at P1
  have hd : (L : Int) ≤ 1500 := by omega
  clear hlong
  clear hsh hsh2 hb hy he hL hl1 hl2 hV h0
  go_enter Tryd.func5, Tryd.ntmps5
  go_wp2_with (go_at_call 7; refine (H0.out _).mono ?_; rintro e w' ⟨rfl, rfl⟩)
  go_at_call 6
  refine (P1.out _ HB.out (Nat.le_refl _) HE.out).mono ?_
  rintro e w1 ⟨rfl, hb1⟩
  have hbx := (Below.refl _ w1).alloc (Nat.le_refl _) (.cells (pkt va vb vc vd ve vf vh) 26)
  have HX1 := Lib.hid (Pk.box w1 0 0 0 0 0 0 0)
  have HP1 := Lib.hid (Pk.box w1 va vb vc vd ve vf vh)
  have HE1 := Lib.hid ((HE.out.below hb1 (Nat.le_refl _)).below hbx (Nat.le_refl _))
  have HB1 := Lib.hid (hb1.trans (hbx.mono hb1.size))
  clear hb1 hbx HE
  obtain ⟨x0, x1, x2, x3, x4, x5, x6⟩ := HX1.out.cells
  obtain ⟨g0, g1, g2, g3, g4, g5, g6⟩ := HX1.out.frozen
  go_wp2_with (first
      | (refine at_slot 20 ?_
         refine wpList_append_new rfl (.tmp 18) (.tmp 19) _ rfl 5 i0 Tryd.underlying22 hi0 hz0 hz1 hz2 (by rw [World.size_alloc]; rfl) W.heap.size A m c _ rfl (HB.out.below HB1.out) HB1.out.size (by omega) ?_
         intro A3 c3 w3 ho3 hb3 hc3
         have HO3 := Lib.hid ho3
         have HB3 := Lib.hid hb3
         clear ho3 hb3 hc3 x0 x1 x2 x3 x4 x5 x6 g0 g1 g2 g3 g4 g5 g6)
      | (go_at_call 7; refine (H2.out _).mono ?_; rintro e w' ⟨rfl, rfl⟩)
      | (refine at_slot 23 ?_
         refine wpList_append_hid (W0 := w1.alloc (.cells (pkt va vb vc vd ve vf vh) 26)) L rfl (.tmp 20) (.tmp 22) _ rfl 5 i0 Tryd.underlying22 hi0 hz0 hz1 hz2 _ m _ rfl HO3.out HB3.out W.heap.size A2 m2 c2 ys rfl (HY.out.below (HB1.out.trans (HB3.out.mono HB1.out.size))) HLL.out (by omega) ?_
         intro A4 c4 w4 HO4 HB4 _ HC4
         clear HO3 HB3))
  have HP4 := Lib.hid (HP1.out.next HB4.out)
  have HE4 := Lib.hid (HE1.out.below HB4.out (Nat.le_refl _))
  have HB5 := Lib.hid (HB1.out.trans (HB4.out.mono HB1.out.size))
  go_at_call 6
  refine (P2.out A4 c4 _ _ (own_bts HO4.out) (Nat.le_refl _) HC4.out.1 HC4.out.2 HE4.out).mono ?_
  rintro e w5 ⟨rfl, hb5⟩
  have hbx := (Below.refl _ w5).alloc (Nat.le_refl _) (.cells (pkt va vb vc vd ve vf vh) 26)
  have HX5 := Lib.hid (Pk.box w5 0 0 0 0 0 0 0)
  have HQ5 := Lib.hid (Pk.box w5 va vb vc vd ve vf vh)
  have HP5 := Lib.hid ((HP4.out.next hb5).next hbx)
  have HE5 := Lib.hid ((HE4.out.below hb5 (Nat.le_refl _)).below hbx (Nat.le_refl _))
  have hb15 := HB5.out.trans (hb5.mono HB5.out.size)
  have HB6 := Lib.hid (hb15.trans (hbx.mono hb15.size))
  clear HP1 HE1 HB1 HO4 HB4 HC4 hb5 hbx hb15 HP4 HE4 HB5 HX1
  obtain ⟨x0, x1, x2, x3, x4, x5, x6⟩ := HX5.out.cells
  obtain ⟨g0, g1, g2, g3, g4, g5, g6⟩ := HX5.out.frozen
  go_wp2_with fail
  go_at_call 9
  refine (awake_any _ HE5.out).mono ?_
  rintro e w7 ⟨rfl, hb7⟩
  have HP7 := Lib.hid (HP5.out.next hb7)
  have HQ7 := Lib.hid (HQ5.out.next hb7)
  have HB7 := Lib.hid (HB6.out.trans (hb7.mono HB6.out.size))
  clear hb7 HX5 HP5 HQ5 HE5 HB6 x0 x1 x2 x3 x4 x5 x6 g0 g1 g2 g3 g4 g5 g6
  obtain ⟨x0, x1, x2, x3, x4, x5, x6⟩ := HP7.out.cells
  obtain ⟨y0, y1, y2, y3, y4, y5, y6⟩ := HQ7.out.cells
  go_wp2_with fail
  go_ret
  exact ⟨rfl, HB7.out⟩

theorem wireBehind_walk (a0 : Option Addr) (n0 c0 : Nat) (b0 : List UInt8) (a1 : Option Addr) (n1 c1 : Nat) (b1 : List UInt8) (w : World) (he : Tc.Env w) (w0 : Bts w w.heap.size a0 n0 b0) (hc0 : n0 ≤ c0) (hm0 : c0 ≤ maxLen) (w1 : Bts w w.heap.size a1 n1 b1) (hc1 : n1 ≤ c1) (hm1 : c1 ≤ maxLen) :
    Calls Tryd.prog 5 #[.slice a0 n0 c0, .slice a1 n1 c1] w fun e w' => e = .returned (.bool true) ∧ Below w.heap.size w w' := by
  unfold maxLen at hm0 hm1
  have hb := w0.take 1600
  have hy := w1.take 1600
  have C0 := fun W => short_any a0 n0 c0 hc0 (by omega) W
  have C1 := fun W => short_any a1 n1 c1 hc1 (by omega) W
  by_cases h : errW (b0.take 1600) = 0
  · by_cases hl : 1500 < min n0 1600 + min n1 1600
    · exact wireBehind_long a0 n0 c0 _ a1 n1 c1 _ _ _ w (by omega) (by omega) (by omega) (by omega) (by omega) (by omega) C0 C1 hb hy he h hl
    · exact wireBehind_ok a0 n0 c0 _ a1 n1 c1 _ _ _ w (by omega) (by omega) (by omega) (by omega) (by omega) (by omega) C0 C1 hb hy he h hl
  · exact wireBehind_bad a0 n0 c0 _ a1 n1 c1 _ _ _ w (by omega) (by omega) (by omega) (by omega) (by omega) (by omega) C0 C1 hb hy he h

end Wi
end Go.Proofs.YtjbdjplliieelaaDoor
