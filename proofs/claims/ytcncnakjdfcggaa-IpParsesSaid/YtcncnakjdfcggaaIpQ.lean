/- Layer 4: the walk of IpParses. -/
import Derived.Test.YtcncnakjdfcggaaIpP
import Derived.Test.YtcncnakjdfcggaaIpC
set_option linter.unusedVariables false
namespace Go.Proofs.Ytcncnakjdfcggaa
open Go.ChangeShapes Go.WideShapes Go.ChangeAt Go.RowKit Go.Mtl
namespace Ip
open IpM (word four hs tl word_lt four_lt errC errN body packB)

theorem parsed_m {W w' : World} {bs : List UInt8} {e : Ending} {m : Nat} (hm : tl bs - hs bs = m) (h : Parsed W bs e w') :
    ∃ A c, e = .returned (.tuple #[headV bs, .slice A m c, .int .i64 0]) ∧ Bts w' w'.heap.size A m (body bs) ∧ Below W.heap.size W w' := by
  subst hm
  obtain ⟨A, c, h1, h2, _, h3⟩ := h
  exact ⟨A, c, h1, h2, h3⟩

set_option maxHeartbeats 4000000 in
theorem ipParses_bad (a0 : Option Addr) (n0 c0 m : Nat) (bs : List UInt8) (w : World) (hmc : m ≤ c0) (hc : c0 ≤ 9223372036854775807) (hsh : ∀ W, Calls Try.prog 8 #[.slice a0 n0 c0] W fun e w' => e = .returned (.slice a0 m c0) ∧ W = w')
    (hb : Bts w w.heap.size a0 m bs) (he : errN bs ≠ 0) :
    Calls Try.prog 3 #[.slice a0 n0 c0] w fun e w' => e = .returned (.bool true) ∧ Below w.heap.size w w' := by
  have H0 := Lib.hid hsh
  have HB := Lib.hid hb
  have P1 := Lib.hid (fun W (hb : Bts W w.heap.size a0 m bs) h => parse_wrong a0 m c0 bs w.heap.size W hb h hmc hc he)
  have P2 := Lib.hid (fun W (hb : Bts W w.heap.size a0 m bs) h => refParse_bad a0 m c0 bs w.heap.size W hb h hmc hc he)
  generalize errN bs = er at P1 P2
  clear hsh hb he
  go_enter Try.func3, Try.ntmps3
  go_wp2_with (go_at_call 8; refine (H0.out _).mono ?_; rintro e w' ⟨rfl, rfl⟩)
  go_at_call 7
  refine (P1.out _ HB.out (Nat.le_refl _)).mono ?_
  rintro e w1 ⟨rfl, hb1⟩
  have HX1 := Lib.hid (Hd.box w1 0 0 0 0 0 0 0)
  obtain ⟨x0, x1, x2, x3, x4, x5, x6⟩ := HX1.out.cells
  obtain ⟨f0, f1, f2, f3, f4, f5, f6⟩ := HX1.out.frozen
  have bel1 := hb1.alloc hb1.size (.cells (cells7 0 0 0 0 0 0 0) 26)
  have HBel1 := Lib.hid bel1
  clear hb1 bel1
  go_wp2_with (go_at_call 8; refine (H0.out _).mono ?_; rintro e w' ⟨rfl, rfl⟩)
  go_at_call 9
  refine (P2.out _ (HB.out.below HBel1.out) HBel1.out.size).mono ?_
  rintro e w2 ⟨rfl, hb2⟩
  have HX2 := Lib.hid (HX1.out.next hb2)
  have HBel2 := Lib.hid (HBel1.out.trans (hb2.mono HBel1.out.size))
  have HY2 := Lib.hid (Hd.box w2 0 0 0 0 0 0 0)
  clear hb2 HX1 HBel1 x0 x1 x2 x3 x4 x5 x6 f0 f1 f2 f3 f4 f5 f6
  obtain ⟨x0, x1, x2, x3, x4, x5, x6⟩ := HY2.out.cells
  obtain ⟨f0, f1, f2, f3, f4, f5, f6⟩ := HY2.out.frozen
  have HX3 := Lib.hid (HX2.out.next ((Below.refl _ w2).alloc (Nat.le_refl _) (.cells (cells7 0 0 0 0 0 0 0) 26)))
  have HBel3 := Lib.hid (HBel2.out.alloc HBel2.out.size (.cells (cells7 0 0 0 0 0 0 0) 26))
  clear HX2 HBel2
  go_wp2_with fail
  go_at_call 10
  refine (awake_any _).mono ?_
  rintro e w4 ⟨rfl, hb4⟩
  have bel := HBel3.out.trans (hb4.mono HBel3.out.size)
  have HX4 := Lib.hid (HX3.out.next hb4)
  have HY4 := Lib.hid (HY2.out.next hb4)
  clear hb4 HX3 HY2 HBel3 x0 x1 x2 x3 x4 x5 x6 f0 f1 f2 f3 f4 f5 f6
  obtain ⟨x0, x1, x2, x3, x4, x5, x6⟩ := HX4.out.cells
  obtain ⟨y0, y1, y2, y3, y4, y5, y6⟩ := HY4.out.cells
  have hcv := text_at (c := 0) (Bts.empty w4 0 none) (Below.refl _ _)
  go_wp2_with fail
  go_ret
  exact ⟨rfl, bel⟩

set_option maxHeartbeats 4000000 in
theorem ipParses_good (a0 : Option Addr) (n0 c0 m : Nat) (bs : List UInt8) (w : World) (hmc : m ≤ c0) (hc : c0 ≤ 9223372036854775807) (hsh : ∀ W, Calls Try.prog 8 #[.slice a0 n0 c0] W fun e w' => e = .returned (.slice a0 m c0) ∧ W = w')
    (hb : Bts w w.heap.size a0 m bs) (he : errN bs = 0) :
    Calls Try.prog 3 #[.slice a0 n0 c0] w fun e w' => e = .returned (.bool true) ∧ Below w.heap.size w w' := by
  have H0 := Lib.hid hsh
  have HB := Lib.hid hb
  obtain ⟨k, hk⟩ : ∃ k, tl bs - hs bs = k := ⟨_, rfl⟩
  have P1 := Lib.hid (fun W (hb : Bts W w.heap.size a0 m bs) h => (parse_right a0 m c0 bs w.heap.size W hb h hmc hc he).mono fun _ _ hp => parsed_m hk hp)
  have P2 := Lib.hid (fun W (hb : Bts W w.heap.size a0 m bs) h => (refParse_ok a0 m c0 bs w.heap.size W hb h hmc hc he).mono fun _ _ hp => parsed_m hk hp)
  clear hsh hb he hk
  go_enter Try.func3, Try.ntmps3
  go_wp2_with (go_at_call 8; refine (H0.out _).mono ?_; rintro e w' ⟨rfl, rfl⟩)
  go_at_call 7
  refine (P1.out _ HB.out (Nat.le_refl _)).mono ?_
  rintro e w1 ⟨A1, c1, rfl, ht1, hb1⟩
  have HX1 := Lib.hid (Hd.box w1 0 0 0 0 0 0 0)
  obtain ⟨x0, x1, x2, x3, x4, x5, x6⟩ := HX1.out.cells
  obtain ⟨f0, f1, f2, f3, f4, f5, f6⟩ := HX1.out.frozen
  have HD1 := Lib.hid (Hd.box w1 (byt bs 9) (four bs 12) (four bs 16) (hs bs) (tl bs) (byt bs 8) (word bs 4))
  have HBel1 := Lib.hid (hb1.alloc hb1.size (.cells (cells7 (byt bs 9) (four bs 12) (four bs 16) (hs bs) (tl bs) (byt bs 8) (word bs 4)) 26))
  have HT1 := Lib.hid ht1
  have hba := (Below.refl _ w1).alloc (Nat.le_refl _) (.cells (cells7 (byt bs 9) (four bs 12) (four bs 16) (hs bs) (tl bs) (byt bs 8) (word bs 4)) 26)
  have HBA := Lib.hid hba
  clear hb1 ht1 hba
  go_wp2_with (go_at_call 8; refine (H0.out _).mono ?_; rintro e w' ⟨rfl, rfl⟩)
  go_at_call 9
  refine (P2.out _ (HB.out.below HBel1.out) HBel1.out.size).mono ?_
  rintro e w2 ⟨A2, c2, rfl, ht2, hb2⟩
  have HX2 := Lib.hid (HD1.out.next hb2)
  have HBel2 := Lib.hid (HBel1.out.trans (hb2.mono HBel1.out.size))
  have HT2 := Lib.hid (HT1.out.below (HBA.out.trans (hb2.mono HBA.out.size)))
  have HU2 := Lib.hid ht2
  have HY2 := Lib.hid (Hd.box w2 0 0 0 0 0 0 0)
  have HD2 := Lib.hid (Hd.box w2 (byt bs 9) (four bs 12) (four bs 16) (hs bs) (tl bs) (byt bs 8) (word bs 4))
  have hsz := Nat.le_trans HBA.out.size hb2.size
  clear hb2 ht2 HX1 HBel1 HD1 HT1 HBA x0 x1 x2 x3 x4 x5 x6 f0 f1 f2 f3 f4 f5 f6
  obtain ⟨x0, x1, x2, x3, x4, x5, x6⟩ := HY2.out.cells
  obtain ⟨f0, f1, f2, f3, f4, f5, f6⟩ := HY2.out.frozen
  have hba := (Below.refl _ w2).alloc (Nat.le_refl _) (.cells (cells7 (byt bs 9) (four bs 12) (four bs 16) (hs bs) (tl bs) (byt bs 8) (word bs 4)) 26)
  have HX3 := Lib.hid (HX2.out.next hba)
  have HBA := Lib.hid hba
  have HBel3 := Lib.hid (HBel2.out.alloc HBel2.out.size (.cells (cells7 (byt bs 9) (four bs 12) (four bs 16) (hs bs) (tl bs) (byt bs 8) (word bs 4)) 26))
  clear HX2 HBel2 hba
  go_wp2_with fail
  go_at_call 10
  refine (awake_any _).mono ?_
  rintro e w4 ⟨rfl, hb4⟩
  have bel := HBel3.out.trans (hb4.mono HBel3.out.size)
  have HX4 := Lib.hid (HX3.out.next hb4)
  have HY4 := Lib.hid (HD2.out.next hb4)
  have hba4 := HBA.out.trans (hb4.mono HBA.out.size)
  have hcv := text_at (c := c1) HT2.out (hba4.mono hsz)
  have hcv2 := text_at (c := c2) HU2.out hba4
  clear hb4 HX3 HY2 HD2 HBel3 HT2 HU2 HBA hba4 hsz x0 x1 x2 x3 x4 x5 x6 f0 f1 f2 f3 f4 f5 f6
  obtain ⟨x0, x1, x2, x3, x4, x5, x6⟩ := HX4.out.cells
  obtain ⟨y0, y1, y2, y3, y4, y5, y6⟩ := HY4.out.cells
  go_wp2_with fail
  go_ret
  exact ⟨rfl, bel⟩

theorem ipParses_walk (a0 : Option Addr) (n0 c0 : Nat) (b0 : List UInt8) (w : World) (w0 : Bts w w.heap.size a0 n0 b0) (hc0 : n0 ≤ c0) (hm0 : c0 ≤ maxLen) :
    Calls Try.prog 3 #[.slice a0 n0 c0] w fun e w' => e = .returned (.bool true) ∧ Below w.heap.size w w' := by
  unfold maxLen at hm0
  have hb := w0.take 1600
  have C0 := fun W => short_any a0 n0 c0 hc0 (by omega) W
  by_cases h : errN (b0.take 1600) = 0
  · exact ipParses_good a0 n0 c0 _ _ w (by omega) (by omega) C0 hb h
  · exact ipParses_bad a0 n0 c0 _ _ w (by omega) (by omega) C0 hb h

end Ip
end Go.Proofs.Ytcncnakjdfcggaa
