/- Layer 4: the walk of IpCuts. -/
import Derived.Test.YtcncnakjdfcggaaIpP
import Derived.Deep.QuietTactic
import Derived.BigQuiet
set_option linter.unusedVariables false
namespace Go.Proofs.Ytcncnakjdfcggaa
open Go.ChangeShapes Go.WideShapes Go.ChangeAt Go.RowKit Go.Mtl
namespace Ip
open IpM (word four hs tl word_lt four_lt errC errN body packB)

theorem tl_lt' (bs : List UInt8) : tl bs < 65536 := IpM.tl_lt bs
theorem bel_drewN {B : Nat} {a w : World} (h : Below B a w) (n : Nat) : Below B a (w.drewN n) := ⟨h.os, h.tape, h.output, h.size, h.block⟩

set_option maxHeartbeats 4000000 in
theorem ipCuts_bad (a0 : Option Addr) (n0 c0 m t : Nat) (bs : List UInt8) (w : World) (hmc : m ≤ c0) (hc : c0 ≤ 9223372036854775807) (hsh : ∀ W, Calls Try.prog 8 #[.slice a0 n0 c0] W fun e w' => e = .returned (.slice a0 m c0) ∧ W = w')
    (hb : Bts w w.heap.size a0 m bs) (he : errN bs ≠ 0) (ht : t ≤ 65535) :
    Calls Try.prog 6 #[.slice a0 n0 c0, .int .u16 (t : Int)] w fun e w' => e = .returned (.bool true) ∧ Below w.heap.size w w' := by
  have H0 := Lib.hid hsh
  have HB := Lib.hid hb
  have P1 := Lib.hid (fun W (hb : Bts W w.heap.size a0 m bs) h => parse_wrong a0 m c0 bs w.heap.size W hb h hmc hc he)
  have d : ((errN bs : Int) != 0) = true := by simp; omega
  generalize errN bs = er at P1 d
  clear hsh hb he
  go_enter Try.func6, Try.ntmps6
  go_wp2_with (go_at_call 8; refine (H0.out _).mono ?_; rintro e w' ⟨rfl, rfl⟩)
  go_at_call 7
  refine (P1.out _ HB.out (Nat.le_refl _)).mono ?_
  rintro e w1 ⟨rfl, hb1⟩
  have HX1 := Lib.hid (Hd.box w1 0 0 0 0 0 0 0)
  obtain ⟨x0, x1, x2, x3, x4, x5, x6⟩ := HX1.out.cells
  obtain ⟨f0, f1, f2, f3, f4, f5, f6⟩ := HX1.out.frozen
  have HBel1 := Lib.hid (hb1.alloc hb1.size (.cells (cells7 0 0 0 0 0 0 0) 26))
  clear hb1
  go_wp2_with fail
  go_quiet (fail)
  have HBel2 := Lib.hid (bel_drewN HBel1.out nq)
  clear x0 x1 x2 x3 x4 x5 x6 f0 f1 f2 f3 f4 f5 f6
  go_wp2_with fail
  go_at_call 10
  refine (awake_any _).mono ?_
  rintro e w4 ⟨rfl, hb4⟩
  have bel := HBel2.out.trans (hb4.mono HBel2.out.size)
  go_wp2_with fail
  go_ret
  exact ⟨rfl, bel⟩

set_option maxHeartbeats 4000000 in
theorem ipCuts_good (a0 : Option Addr) (n0 c0 m t : Nat) (b0 bs : List UInt8) (w : World) (hmc : m ≤ c0) (hnc : n0 ≤ c0) (hmn : m ≤ n0) (hc : c0 ≤ 9223372036854775807) (hsh : ∀ W, Calls Try.prog 8 #[.slice a0 n0 c0] W fun e w' => e = .returned (.slice a0 m c0) ∧ W = w')
    (hb : Bts w w.heap.size a0 m bs) (hb0 : Bts w w.heap.size a0 n0 b0) (hbs : bs = b0.take m) (he : errN bs = 0) (ht : t ≤ 65535) :
    Calls Try.prog 6 #[.slice a0 n0 c0, .int .u16 (t : Int)] w fun e w' => e = .returned (.bool true) ∧ Below w.heap.size w w' := by
  have H0 := Lib.hid hsh
  have HB := Lib.hid hb
  have HB0 := Lib.hid hb0
  have P1 := Lib.hid (fun W (hb : Bts W w.heap.size a0 m bs) h => (parse_right a0 m c0 bs w.heap.size W hb h hmc hc he))
  obtain ⟨p1, p2, he'⟩ := IpM.errN_zero he
  obtain ⟨q1, q2, q3, q4, q5, q6, q7⟩ := IpM.errC_zero he'
  rw [hb.len] at q5 p1
  obtain ⟨k, hk, hk2⟩ : ∃ k : Nat, (t : Int) % (tl bs : Int) = (k : Int) ∧ k < tl bs := ⟨t % tl bs, by simp, Nat.mod_lt _ (by omega)⟩
  have hcut : errN (b0.take k) = 4 := by
    have h := IpM.cut_err bs k he hk2
    rw [hbs, List.take_take, Nat.min_eq_left (by omega)] at h
    exact h
  have P2 := Lib.hid (fun W (hb : Bts W w.heap.size a0 n0 b0) h => parse_wrong a0 k c0 (b0.take k) w.heap.size W (hb.front k (by omega)) h (by omega) hc (by rw [hcut]; omega))
  rw [hcut] at P2
  have l1 : 1 ≤ tl bs := by omega
  have l2 : tl bs ≤ m := by omega
  have l3 : m ≤ 9223372036854775807 := by omega
  have l4 : k ≤ c0 := by omega
  have l5 := tl_lt' bs
  have dl : decide ((tl bs : Int) < 1) = false := by simp; omega
  have dm : decide (m < tl bs) = false := by simp; omega
  clear hsh hb he he' hb0 hbs hcut q1 q2 q3 q4 q5 q6 q7 p1 p2
  go_enter Try.func6, Try.ntmps6
  go_wp2_with (go_at_call 8; refine (H0.out _).mono ?_; rintro e w' ⟨rfl, rfl⟩)
  go_at_call 7
  refine (P1.out _ HB.out (Nat.le_refl _)).mono ?_
  rintro e w1 ⟨A1, c1, rfl, -, -, hb1⟩
  have HX1 := Lib.hid (Hd.box w1 0 0 0 0 0 0 0)
  obtain ⟨x0, x1, x2, x3, x4, x5, x6⟩ := HX1.out.cells
  obtain ⟨f0, f1, f2, f3, f4, f5, f6⟩ := HX1.out.frozen
  have HD1 := Lib.hid (Hd.box w1 (byt bs 9) (four bs 12) (four bs 16) (hs bs) (tl bs) (byt bs 8) (word bs 4))
  have HBel1 := Lib.hid (hb1.alloc hb1.size (.cells (cells7 (byt bs 9) (four bs 12) (four bs 16) (hs bs) (tl bs) (byt bs 8) (word bs 4)) 26))
  clear hb1
  go_wp2_with fail
  clear x0 x1 x2 x3 x4 x5 x6 f0 f1 f2 f3 f4 f5 f6 HX1
  obtain ⟨x0, x1, x2, x3, x4, x5, x6⟩ := HD1.out.cells
  go_quiet ((go_at_call 8; exact Calls.quiet_of_same ((H0.out _).mono fun _ _ ⟨he, hh⟩ => ⟨he, hh.symm⟩)))
  have HBel2 := Lib.hid (bel_drewN HBel1.out nq)
  clear HD1 HBel1
  go_wp2_with fail
  go_at_call 7
  refine (P2.out _ (HB0.out.below HBel2.out) HBel2.out.size).mono ?_
  rintro e w2 ⟨rfl, hb2⟩
  have HBel3 := Lib.hid (HBel2.out.trans (hb2.mono HBel2.out.size))
  clear hb2 HBel2 x0 x1 x2 x3 x4 x5 x6
  have HY2 := Lib.hid (Hd.box w2 0 0 0 0 0 0 0)
  obtain ⟨x0, x1, x2, x3, x4, x5, x6⟩ := HY2.out.cells
  obtain ⟨f0, f1, f2, f3, f4, f5, f6⟩ := HY2.out.frozen
  have HBel4 := Lib.hid (HBel3.out.alloc HBel3.out.size (.cells (cells7 0 0 0 0 0 0 0) 26))
  go_wp2_with fail
  go_at_call 10
  refine (awake_any _).mono ?_
  rintro e w4 ⟨rfl, hb4⟩
  have bel := HBel4.out.trans (hb4.mono HBel4.out.size)
  have HY4 := Lib.hid (HY2.out.next hb4)
  clear hb4 HY2 x0 x1 x2 x3 x4 x5 x6 f0 f1 f2 f3 f4 f5 f6
  obtain ⟨y0, y1, y2, y3, y4, y5, y6⟩ := HY4.out.cells
  go_wp2_with fail
  go_ret
  exact ⟨rfl, bel⟩

theorem ipCuts_walk (a0 : Option Addr) (n0 c0 : Nat) (b0 : List UInt8) (a1 : Int) (w : World) (w0 : Bts w w.heap.size a0 n0 b0) (hc0 : n0 ≤ c0) (hm0 : c0 ≤ maxLen) (w1 : 0 ≤ a1 ∧ a1 ≤ 65535) :
    Calls Try.prog 6 #[.slice a0 n0 c0, .int .u16 a1] w fun e w' => e = .returned (.bool true) ∧ Below w.heap.size w w' := by
  unfold maxLen at hm0
  obtain ⟨t, rfl⟩ := Int.eq_ofNat_of_zero_le w1.1
  have hb := w0.take 1600
  have hl := w0.len
  have C0 := fun W => short_any a0 n0 c0 hc0 (by omega) W
  by_cases h : errN (b0.take 1600) = 0
  · exact ipCuts_good a0 n0 c0 _ t b0 _ w (by omega) hc0 (by omega) (by omega) C0 hb w0 (by rw [← hl, Nat.min_comm, ← List.take_eq_take_min]) h (by omega)
  · exact ipCuts_bad a0 n0 c0 _ t _ w (by omega) (by omega) C0 hb h (by omega)

end Ip
end Go.Proofs.Ytcncnakjdfcggaa
