/- Layer 4: the walk of IpBack. -/
import Derived.Test.YtcncnakjdfcggaaIpP
import Derived.Test.YtcncnakjdfcggaaComT
import Derived.Test.YtcncnakjdfcggaaSumD
set_option linter.unusedVariables false
namespace Go.Proofs.Ytcncnakjdfcggaa
open Go.ChangeShapes Go.WideShapes Go.ChangeAt Go.RowKit Go.Mtl
namespace Ip
open IpM (word four hs tl word_lt four_lt errC errN body packB)
open SumM (turn)

/-- Bytes in memory from block L on, while what is below L may be written. -/
theorem bts_above {w w' : World} {B n L : Nat} {A : Option Addr} {bs : List UInt8} (h : Bts w B A n bs) (hL : ∀ p, A = some p → L ≤ p.block) (hk : ∀ k, L ≤ k → k < B → w'.heap[k]? = w.heap[k]?) : Bts w' B A n bs :=
  ⟨h.len, fun hn => by
    obtain ⟨b, off, e, hb, hc⟩ := h.at_ hn
    have hLb := hL _ e
    exact ⟨b, off, e, hb, fun j hj => (World.cell?_of_block (hk b hLb hb)).trans (hc j hj)⟩⟩
theorem Hd.set34 {w : World} {g : Nat} {a b c d e f h : Int} (H : Hd w g a b c d e f h) (d' e' : Int) : Hd ((w.setCell ⟨g, 3, none⟩ (.int .i64 d')).setCell ⟨g, 4, none⟩ (.int .i64 e')) g a b c d' e' f h := by
  have h3 := heap_setCell_same w g 3 _ _ (.int .i64 d') H
  have h4 := heap_setCell_same _ g 4 _ _ (.int .i64 e') h3
  simpa [Hd] using h4
theorem set_other {w : World} {g k i : Nat} (u : Value) (h : k ≠ g) : (w.setCell ⟨g, i, none⟩ u).heap[k]? = w.heap[k]? := Below.heap_setCell w ⟨g, i, none⟩ u k h
theorem built_n {W w' : World} {id tt pr sr ds N : Nat} {x : List UInt8} {e : Ending} (hN : 20 + x.length = N) (h : Built W id tt pr sr ds x e w') :
    ∃ g, e = .returned (.tuple #[.slice (some ⟨g, 0, none⟩) N N, .int .i64 0]) ∧ Row w' g (packB id tt pr sr ds x) ∧ W.heap.size ≤ g ∧ Below W.heap.size W w' := by subst hN; exact h

set_option maxHeartbeats 8000000 in
theorem ipBack_core (a1 a2 : Option Addr) (n1 c1 n2 c2 m k : Nat) (x y : List UInt8) (pr sr ds tt id bt : Nat) (sz ln : Int) (w : World) (hn1 : n1 ≤ c1) (hn2 : n2 ≤ c2) (hc1 : c1 ≤ 9223372036854775807) (hc2 : c2 ≤ 9223372036854775807)
    (hm : (m = 1000 ∧ 1000 < n1) ∨ (m = n1 ∧ n1 ≤ 1000)) (hk : (k = 400 ∧ 400 < n2) ∨ (k = n2 ∧ n2 ≤ 400))
    (hx : Bts w w.heap.size a1 m x) (hy : Bts w w.heap.size a2 k y)
    (hpr : pr < 256) (hsr : sr < 4294967296) (hds : ds < 4294967296) (htt : tt < 256) (hid : id < 65536) (hbt : bt < 256) :
    Calls Try.prog 5 #[.agg (cells7 pr sr ds sz ln tt id), .slice a1 n1 c1, .slice a2 n2 c2, .int .u8 (bt : Int)] w fun e w' => e = .returned (.bool true) ∧ Below w.heap.size w w' := by
  obtain ⟨i0, hi0, hz0, hz1, hz2⟩ := info_parts u8_info
  have hlx := hx.len
  have hly := hy.len
  have hm0 : m ≤ 1000 ∧ m ≤ c1 := by omega
  have hk0 : k ≤ 400 ∧ k ≤ c2 := by omega
  obtain ⟨N, hN⟩ : ∃ N, 20 + x.length = N := ⟨_, rfl⟩
  obtain ⟨L, hL⟩ : ∃ L, N + k = L := ⟨_, rfl⟩
  have P1 := Lib.hid (fun W (hb : Bts W w.heap.size a1 m x) h => (build_ok a1 m c1 x pr sr ds tt id sz ln w.heap.size W hb h hm0.2 hc1 (by omega) hpr hsr hds htt hid).mono fun _ _ hp => built_n hN hp)
  have P2 := Lib.hid (fun A W c (hb : Bts W W.heap.size A L (packB id tt pr sr ds x ++ y)) hc hm' => parse_pack A L c id tt pr sr ds x y W.heap.size W hb (Nat.le_refl _) hc hm' hpr hsr hds htt hid (by omega) N m hN hlx)
  obtain ⟨j, hj, hj2⟩ : ∃ j : Nat, (bt : Int) % 160 / 8 = (j : Int) ∧ j = bt % 160 / 8 := ⟨bt % 160 / 8, by omega, rfl⟩
  obtain ⟨p, hp, hp2⟩ : ∃ p : Nat, (bt : Int) % 8 = (p : Int) ∧ p = bt % 8 := ⟨bt % 8, by omega, rfl⟩
  have hN1 : N ≤ 20 + m := by omega
  have hN2 : 20 + m ≤ N := by omega
  have hj20 : j < 20 := by omega
  have hp8 : p < 8 := by omega
  have HTE := Lib.hid (IpM.turn_err id tt pr sr ds x j p hj20 hp8)
  have HJ := Lib.hid hj2
  have HP := Lib.hid hp2
  have HNN := Lib.hid hN
  have HLL := Lib.hid hL
  have hL2 : L ≤ 1420 := by omega
  have HX := Lib.hid hx
  have HY := Lib.hid hy
  have HBX := Lib.hid (Hd.box w pr sr ds sz ln tt id)
  have bel0 := (Below.refl _ w).alloc (Nat.le_refl _) (.cells (cells7 pr sr ds sz ln tt id) 26)
  have HB0 := Lib.hid bel0
  clear hj2 hp2 hN hL hx hy bel0 hlx hly
  rcases hm with ⟨rfl, h1⟩ | ⟨rfl, h1⟩ <;> rcases hk with ⟨rfl, h2⟩ | ⟨rfl, h2⟩
  all_goals
    go_enter Try.func5, Try.ntmps5
    obtain ⟨b0, b1, b2, b3, b4, b5, b6⟩ := HBX.out.cells
    go_wp2_with fail
    go_at_call 11
    refine (P1.out _ (HX.out.below HB0.out) HB0.out.size).mono ?_
    rintro e w1 ⟨g, rfl, hr1, hg1, hb1⟩
    rw [World.size_alloc] at hg1
    have HR1 := Lib.hid hr1
    have HH1 := Lib.hid (HBX.out.next hb1)
    have HW1 := Lib.hid (HB0.out.trans (hb1.mono HB0.out.size))
    have HT1 := hr1.bts
    rw [IpM.packB_len, HNN.out] at HT1
    have HT1 := Lib.hid HT1
    have hg2 := hr1.lt
    clear b0 b1 b2 b3 b4 b5 b6 hr1 hb1 P1 HBX HB0
    go_wp2_with (first
      | (refine at_slot 48 ?_
         refine wpList_append_new rfl (.tmp 46) (.tmp 47) _ rfl 5 i0 Try.underlying22 hi0 hz0 hz1 hz2 rfl _ (some ⟨g, 0, none⟩) N N _ rfl HT1.out (Nat.le_refl _) (by omega) ?_
         intro A3 c3 w3 ho3 hb3 hc3
         have HO3 := Lib.hid ho3
         have HB3 := Lib.hid hb3
         clear ho3 hb3 hc3)
      | (refine at_slot 50 ?_
         refine wpList_append_at L rfl (.tmp 48) (.tmp 49) _ rfl w1.heap.size 5 i0 Try.underlying22 hi0 hz0 hz1 hz2 _ N _ rfl HO3.out w.heap.size a2 _ c2 y rfl (HY.out.below (HW1.out.trans (HB3.out.mono HW1.out.size))) HLL.out (by omega) HB3.out.size ?_
         intro A4 c4 w4 ho4 hg4 hc4
         have HB4 := Lib.hid (HB3.out.grown hg4 HB3.out.size (fun k hk => (HO3.out.lt k hk).1))
         have HO4 := Lib.hid ho4
         clear ho4 hg4 HO3 HB3))
    go_at_call 7
    refine (P2.out A4 w4 c4 (own_bts HO4.out) hc4.1 hc4.2).mono ?_
    rintro e w5 ⟨A5, c5, rfl, ht5, hc5, hb5, hn5⟩
    have hs4 := HB4.out.size
    have hs5 := hb5.size
    have HB5 := Lib.hid (HB4.out.trans (hb5.mono hs4))
    have HT5 := Lib.hid ht5
    have HN5 := Lib.hid hn5
    have HB6 := Lib.hid (HB5.out.alloc HB5.out.size (.cells (cells7 pr sr ds 20 N tt id) 26))
    have HR6 : Hid (Row (w5.alloc (.cells (cells7 pr sr ds 20 N tt id) 26)) g (packB id tt pr sr ds x)) := (HB6.out.block g hg2).trans HR1.out
    have HH6 := Lib.hid (HH1.out.keep (HB6.out.block _ (by omega)))
    have HD6 := Lib.hid (Hd.box w5 pr sr ds 20 N tt id)
    have HX5 := Lib.hid (Hd.box w5 0 0 0 0 0 0 0)
    obtain ⟨x0, x1, x2, x3, x4, x5, x6⟩ := HX5.out.cells
    obtain ⟨f0, f1, f2, f3, f4, f5, f6⟩ := HX5.out.frozen
    obtain ⟨z0, z1, z2, z3, z4, z5, z6⟩ := HH6.out.cells
    obtain ⟨d0, d1, d2, d3, d4, d5, d6⟩ := HH6.out.frozen
    have k0 := HR6.out.cell j (by rw [IpM.packB_len, HNN.out]; omega)
    have k1 := HR6.out.frozen j
    have hjN : (j : Int) < N := by omega
    have hyb := byt_lt (packB id tt pr sr ds x) j
    clear P2 HO4 HT1 HR1 HH1 ht5 hn5 hb5 hc5 HLL hc4
    go_wp2_with fail
    go_at_call 7
    have n1 : g ≠ w.heap.size := by omega
    have n2 : w.heap.size ≠ g := by omega
    have n3 : w5.heap.size ≠ w.heap.size := by omega
    have n4 : w5.heap.size ≠ g := by omega
    have HRf := Lib.hid (Row.set (w := (((w5.alloc (.cells (cells7 pr sr ds 20 N tt id) 26)).setCell ⟨w.heap.size, 3, none⟩ (.int .i64 20)).setCell ⟨w.heap.size, 4, none⟩ (.int .i64 N))) (((set_other _ n1).trans (set_other _ n1)).trans HR6.out) j _ (UInt8.ofNat (byt (packB id tt pr sr ds x) j ^^^ 2 ^ p)) (Sm.xor_turn _ p hyb hp8))
    have HHf := Lib.hid ((HH6.out.set34 20 N).keep (w' := ((((w5.alloc (.cells (cells7 pr sr ds 20 N tt id) 26)).setCell ⟨w.heap.size, 3, none⟩ (.int .i64 20)).setCell ⟨w.heap.size, 4, none⟩ (.int .i64 N)).setCell ⟨g, j, none⟩ (.int .u8 (bits .xor .u8 (byt (packB id tt pr sr ds x) j : Int) (2 ^ p % 256))))) (set_other _ n2))
    have HDf := Lib.hid (HD6.out.keep (w' := ((((w5.alloc (.cells (cells7 pr sr ds 20 N tt id) 26)).setCell ⟨w.heap.size, 3, none⟩ (.int .i64 20)).setCell ⟨w.heap.size, 4, none⟩ (.int .i64 N)).setCell ⟨g, j, none⟩ (.int .u8 (bits .xor .u8 (byt (packB id tt pr sr ds x) j : Int) (2 ^ p % 256))))) (((set_other _ n4).trans (set_other _ n3)).trans (set_other _ n3)))
    have HTf := Lib.hid (bts_above (w' := ((((w5.alloc (.cells (cells7 pr sr ds 20 N tt id) 26)).setCell ⟨w.heap.size, 3, none⟩ (.int .i64 20)).setCell ⟨w.heap.size, 4, none⟩ (.int .i64 N)).setCell ⟨g, j, none⟩ (.int .u8 (bits .xor .u8 (byt (packB id tt pr sr ds x) j : Int) (2 ^ p % 256))))) HT5.out HN5.out (fun k hk hk2 => (((set_other _ (by omega)).trans (set_other _ (by omega))).trans (set_other _ (by omega))).trans (Below.heap_alloc _ _ _ hk2)))
    have HWf := Lib.hid ((((HW1.out.trans (HB6.out.mono HW1.out.size)).setCell (p := ⟨w.heap.size, 3, none⟩) (Nat.le_refl _) (.int .i64 20)).setCell (p := ⟨w.heap.size, 4, none⟩) (Nat.le_refl _) (.int .i64 N)).setCell (p := ⟨g, j, none⟩) (by show w.heap.size ≤ g; omega) (.int .u8 (bits .xor .u8 (byt (packB id tt pr sr ds x) j : Int) (2 ^ p % 256))))
    have hsf : w5.heap.size ≤ ((((w5.alloc (.cells (cells7 pr sr ds 20 N tt id) 26)).setCell ⟨w.heap.size, 3, none⟩ (.int .i64 20)).setCell ⟨w.heap.size, 4, none⟩ (.int .i64 N)).setCell ⟨g, j, none⟩ (.int .u8 (bits .xor .u8 (byt (packB id tt pr sr ds x) j : Int) (2 ^ p % 256)))).heap.size := by simp
    clear k0 k1 x0 x1 x2 x3 x4 x5 x6 f0 f1 f2 f3 f4 f5 f6 z0 z1 z2 z3 z4 z5 z6 d0 d1 d2 d3 d4 d5 d6 HR6 HH6 HD6 HT5 HN5 HB5 HB6 HX5 n1 n2 n3 n4 hs4 hs5
    generalize ((((w5.alloc (.cells (cells7 pr sr ds 20 N tt id) 26)).setCell ⟨w.heap.size, 3, none⟩ (.int .i64 20)).setCell ⟨w.heap.size, 4, none⟩ (.int .i64 N)).setCell ⟨g, j, none⟩ (.int .u8 (bits .xor .u8 (byt (packB id tt pr sr ds x) j : Int) (2 ^ p % 256)))) = w6 at HRf HHf HDf HTf HWf hsf ⊢
    have HRf : Hid (Row w6 g (turn (packB id tt pr sr ds x) j p)) := HRf.out
    have hlt : (turn (packB id tt pr sr ds x) j p).length = N := by rw [SumM.turn_len, IpM.packB_len, HNN.out]
    generalize turn (packB id tt pr sr ds x) j p = T at HRf HTE hlt
    have HTb := HRf.out.bts
    rw [hlt] at HTb
    have HTb := Lib.hid HTb
    clear hlt
    by_cases he : errN T = 0
    · have hb4 : (bt : Int) % 160 < 4 := by
        have h : j = 0 ∧ p < 4 := Classical.byContradiction fun h => HTE.out h he
        have h1 := HJ.out
        have h2 := HP.out
        omega
      obtain ⟨q, hq⟩ : ∃ q, tl T - hs T = q := ⟨_, rfl⟩
      have P3 := Lib.hid (parse_right (some ⟨g, 0, none⟩) N N T w6.heap.size w6 HTb.out (Nat.le_refl _) (Nat.le_refl _) (by omega) he)
      clear he hq HTE
      refine P3.out.mono ?_
      rintro e w7 ⟨A7, c7, rfl, -, -, hb7⟩
      have HX7 := Lib.hid (Hd.box w7 0 0 0 0 0 0 0)
      obtain ⟨x0, x1, x2, x3, x4, x5, x6⟩ := HX7.out.cells
      obtain ⟨f0, f1, f2, f3, f4, f5, f6⟩ := HX7.out.frozen
      have HB7 := Lib.hid (hb7.alloc hb7.size (.cells (cells7 (byt T 9) (four T 12) (four T 16) (hs T) (tl T) (byt T 8) (word T 4)) 26))
      clear hb7 P3
      go_wp2_with fail
      go_at_call 10
      refine (awake_any _).mono ?_
      rintro e w8 ⟨rfl, hb8⟩
      have hb68 := HB7.out.trans (hb8.mono HB7.out.size)
      have HHg := Lib.hid (HHf.out.next hb68)
      have HDg := Lib.hid (HDf.out.next hb68)
      have bel := HWf.out.trans (hb68.mono HWf.out.size)
      have hcv := text_at (c := c5) HTf.out (hb68.mono hsf)
      have hcv2 := text_at (c := c1) HX.out bel
      clear hb8 hb68 x0 x1 x2 x3 x4 x5 x6 f0 f1 f2 f3 f4 f5 f6
      obtain ⟨x0, x1, x2, x3, x4, x5, x6⟩ := HHg.out.cells
      obtain ⟨y0, y1, y2, y3, y4, y5, y6⟩ := HDg.out.cells
      go_wp2_with fail
      go_ret
      exact ⟨rfl, bel⟩
    · have P3 := Lib.hid (parse_wrong (some ⟨g, 0, none⟩) N N T w6.heap.size w6 HTb.out (Nat.le_refl _) (Nat.le_refl _) (by omega) he)
      have d : ((errN T : Int) != 0) = true := by simp; omega
      generalize errN T = er at P3 d
      clear he HTE
      refine P3.out.mono ?_
      rintro e w7 ⟨rfl, hb7⟩
      have HX7 := Lib.hid (Hd.box w7 0 0 0 0 0 0 0)
      obtain ⟨x0, x1, x2, x3, x4, x5, x6⟩ := HX7.out.cells
      obtain ⟨f0, f1, f2, f3, f4, f5, f6⟩ := HX7.out.frozen
      have HB7 := Lib.hid (hb7.alloc hb7.size (.cells (cells7 0 0 0 0 0 0 0) 26))
      clear hb7 P3
      go_wp2_with fail
      go_at_call 10
      refine (awake_any _).mono ?_
      rintro e w8 ⟨rfl, hb8⟩
      have hb68 := HB7.out.trans (hb8.mono HB7.out.size)
      have HHg := Lib.hid (HHf.out.next hb68)
      have HDg := Lib.hid (HDf.out.next hb68)
      have bel := HWf.out.trans (hb68.mono HWf.out.size)
      have hcv := text_at (c := c5) HTf.out (hb68.mono hsf)
      have hcv2 := text_at (c := c1) HX.out bel
      clear hb8 hb68 x0 x1 x2 x3 x4 x5 x6 f0 f1 f2 f3 f4 f5 f6
      obtain ⟨x0, x1, x2, x3, x4, x5, x6⟩ := HHg.out.cells
      obtain ⟨y0, y1, y2, y3, y4, y5, y6⟩ := HDg.out.cells
      go_wp2_with fail
      go_ret
      exact ⟨rfl, bel⟩

theorem ipBack_walk (p0 p1 p2 p3 p4 p5 p6 : Int) (a1 : Option Addr) (n1 c1 : Nat) (b1 : List UInt8) (a2 : Option Addr) (n2 c2 : Nat) (b2 : List UInt8) (a3 : Int) (w : World) (hp : (0 ≤ p0 ∧ p0 ≤ 255) ∧ (0 ≤ p1 ∧ p1 ≤ 4294967295) ∧ (0 ≤ p2 ∧ p2 ≤ 4294967295) ∧ (-9223372036854775808 ≤ p3 ∧ p3 ≤ 9223372036854775807) ∧ (-9223372036854775808 ≤ p4 ∧ p4 ≤ 9223372036854775807) ∧ (0 ≤ p5 ∧ p5 ≤ 255) ∧ (0 ≤ p6 ∧ p6 ≤ 65535))
    (w1 : Bts w w.heap.size a1 n1 b1) (hc1 : n1 ≤ c1) (hm1 : c1 ≤ maxLen) (w2 : Bts w w.heap.size a2 n2 b2) (hc2 : n2 ≤ c2) (hm2 : c2 ≤ maxLen) (w3 : 0 ≤ a3 ∧ a3 ≤ 255) :
    Calls Try.prog 5 #[.agg #[.int .u8 p0, .int .u32 p1, .int .u32 p2, .int .i64 p3, .int .i64 p4, .int .u8 p5, .int .u16 p6], .slice a1 n1 c1, .slice a2 n2 c2, .int .u8 a3] w fun e w' => e = .returned (.bool true) ∧ Below w.heap.size w w' := by
  unfold maxLen at hm1 hm2
  obtain ⟨h0, h1, h2, h3, h4, h5, h6⟩ := hp
  obtain ⟨pr, rfl⟩ := Int.eq_ofNat_of_zero_le h0.1
  obtain ⟨sr, rfl⟩ := Int.eq_ofNat_of_zero_le h1.1
  obtain ⟨ds, rfl⟩ := Int.eq_ofNat_of_zero_le h2.1
  obtain ⟨tt, rfl⟩ := Int.eq_ofNat_of_zero_le h5.1
  obtain ⟨id, rfl⟩ := Int.eq_ofNat_of_zero_le h6.1
  obtain ⟨bt, rfl⟩ := Int.eq_ofNat_of_zero_le w3.1
  exact ipBack_core a1 a2 n1 c1 n2 c2 (min n1 1000) (min n2 400) (b1.take 1000) (b2.take 400) pr sr ds tt id bt p3 p4 w hc1 hc2 (by omega) (by omega) (by omega) (by omega) (w1.take 1000) (w2.take 400) (by omega) (by omega) (by omega) (by omega) (by omega) (by omega)

end Ip
end Go.Proofs.Ytcncnakjdfcggaa
