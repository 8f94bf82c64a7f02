/- Layer 12: what the library's variables hold (Env), and the contracts of isNet, isSpan, Good, showSpan, show. -/
import Derived.Test.YtfbbkbjiaopnkaaGreatDoorRulA
import Derived.Test.YtfbbkbjiaopnkaaGreatDoorAdrN
import Derived.Test.YtfbbkbjiaopnkaaGreatDoorTxtB
import Derived.Test.YtfbbkbjiaopnkaaGreatDoorComB
import Derived.Lib.ItoaMem
set_option linter.unusedVariables false
set_option linter.unusedSimpArgs false
namespace Go.Proofs.YtfbbkbjiaopnkaaGreatDoor
open Go.ChangeShapes Go.WideShapes Go.ChangeAt Go.RowKit Go.Mtl Go.Shelf Go.Lib
namespace Ru
open RulM (R wordS known protoP known_iff spanS netL verdL goodR goodR_iff wordsR lineR)
open AdrM (anyL validS showS)

/-- What the library's variables hold. -/
structure Env (w : World) : Prop where
  ad : Ad.Env w
  tx : Tx.Env w
theorem Env.below {w w' : World} (h : Env w) (hb : Below w.heap.size w w') : Env w' := ⟨h.ad.below hb, h.tx.below hb⟩
theorem Env.alloc {w : World} (h : Env w) (o : Obj) : Env (w.alloc o) := ⟨h.ad.alloc o, h.tx.alloc o⟩
theorem Env.drewN {w : World} (h : Env w) (n : Nat) : Env (w.drewN n) := ⟨h.ad.drewN n, h.tx.drewN n⟩
theorem below_drewN (w : World) (n : Nat) : Below w.heap.size w (w.drewN n) := ⟨rfl, rfl, rfl, Nat.le_refl _, fun _ _ => rfl⟩
theorem below_then {w w1 w2 : World} (h : Below w.heap.size w w1) (h2 : Below w1.heap.size w1 w2) : Below w.heap.size w w2 := h.trans (h2.mono h.size)
theorem below_box (w : World) (o : Obj) : Below w.heap.size w (w.alloc o) := (Below.refl _ _).alloc (Nat.le_refl _) _

theorem show_good {a : Nat} {n : Int} (h : validS a n = true) : Ad.showRes a n = .tuple #[.string ⟨(netL a n).toArray⟩, .int .i64 0] := by
  unfold Ad.showRes; rw [RulM.show_yes h]

set_option maxRecDepth 100000 in
theorem isNet_any (a : Nat) (n : Int) (ha : a < 4294967296) (w : World) (he : Ad.Env w) :
    Calls Tryz.prog 24 #[.agg #[.int .u32 (a : Int), .int .i64 n]] w fun e w' => e = .returned (.bool (validS a n)) ∧ Below w.heap.size w w' := by
  have HN := Lib.hid (Ad.netAt_box w a n)
  have HS := Lib.hid (Ad.show_any a n ha (Ad.boxed w a n) (he.alloc _))
  clear he
  cases hv : validS a n with
  | false =>
    rw [Ad.showRes_bad hv] at HS
    clear hv
    obtain ⟨hc0, hc1, -, -⟩ := HN.out
    go_enter Tryz.func24, Tryz.ntmps24
    go_wp2_with fail
    go_at_call 41
    refine HS.out.mono ?_
    rintro e w1 ⟨rfl, hb⟩
    have HB := Lib.hid (below_then (below_box _ _) hb)
    clear hb hc0 hc1
    go_wp2_with fail
    go_ret
    exact ⟨rfl, HB.out⟩
  | true =>
    rw [show_good hv] at HS
    clear hv
    obtain ⟨hc0, hc1, -, -⟩ := HN.out
    go_enter Tryz.func24, Tryz.ntmps24
    go_wp2_with fail
    go_at_call 41
    refine HS.out.mono ?_
    rintro e w1 ⟨rfl, hb⟩
    have HB := Lib.hid (below_then (below_box _ _) hb)
    clear hb hc0 hc1
    go_wp2_with fail
    go_ret
    exact ⟨rfl, HB.out⟩

theorem isSpan_any (a b : Nat) (w : World) :
    Calls Tryz.prog 25 #[.agg #[.int .u16 (a : Int), .int .u16 (b : Int)]] w fun e w' => e = .returned (.bool (decide (a ≤ b))) ∧ Below w.heap.size w w' := by
  have HB := Lib.hid (below_box w (.cells #[.int .u16 (a : Int), .int .u16 (b : Int)] 36))
  go_enter Tryz.func25, Tryz.ntmps25
  go_wp2_with fail
  go_ret
  exact ⟨rfl, HB.out⟩

theorem itoa_port (n : Nat) (hn : n < 65536) (w : World) (he : Ad.Env w) (x : Int) (hx : x = (n : Int)) :
    Calls Tryz.prog 59 #[.int .i64 x] w fun e w' => e = .returned (.string ⟨(decDigits n).toArray⟩) ∧ Below w.heap.size w w' := by
  subst hx
  refine (Tryz.strconv_Itoa (n : Int) (by omega) (by omega) w he.tab).mono fun e w' ⟨h1, k, os, h2⟩ => ⟨?_, ?_⟩
  · rw [h1]
    have : itoa (n : Int) = decDigits n := by unfold itoa; rw [if_neg (by omega)]; rfl
    rw [this]
  · rw [h2]; exact Ad.below_grow w k os

theorem ret_str {a b : List UInt8} (h : a = b) : Ending.returned (.string ⟨a.toArray⟩) = .returned (.string ⟨b.toArray⟩) := by rw [h]
theorem span_one {a b : Nat} (h : ¬ (a = 0 ∧ b = 65535)) (h2 : a = b) : spanS a b = decDigits a := by unfold spanS; rw [if_neg h, if_pos h2]
theorem span_two {a b : Nat} (h : ¬ (a = 0 ∧ b = 65535)) (h2 : a ≠ b) : spanS a b = (decDigits a ++ [45]) ++ decDigits b := by unfold spanS; rw [if_neg h, if_neg h2]; simp

set_option maxRecDepth 100000 in
set_option maxHeartbeats 1000000 in
theorem showSpan_any (a b : Nat) (ha : a < 65536) (hb : b < 65536) (w : World) (he : Ad.Env w) :
    Calls Tryz.prog 42 #[.agg #[.int .u16 (a : Int), .int .u16 (b : Int)]] w fun e w' => e = .returned (.string ⟨(spanS a b).toArray⟩) ∧ Below w.heap.size w w' := by
  have HB := Lib.hid (below_box w (.cells #[.int .u16 (a : Int), .int .u16 (b : Int)] 36))
  have HE := Lib.hid he
  clear he
  by_cases h1 : a = 0 ∧ b = 65535
  · obtain ⟨rfl, rfl⟩ := h1
    go_enter Tryz.func42, Tryz.ntmps42
    go_wp2_with fail
    go_ret
    exact ⟨rfl, HB.out⟩
  · by_cases h2 : a = b
    · have HS := Lib.hid (span_one h1 h2)
      subst h2
      clear h1
      have HI := Lib.hid (fun W (h : Below w.heap.size w W) => itoa_port a ha W (HE.out.below h) (a : Int) rfl)
      have hlt : (a : Int) < 65536 := by omega
      go_enter Tryz.func42, Tryz.ntmps42
      by_cases h0 : a = 0
      · subst h0
        go_wp2_with fail
        go_at_call 59
        refine (HI.out _ HB.out).mono ?_
        rintro e w1 ⟨rfl, hb1⟩
        have HB1 := Lib.hid hb1
        have hc0 : w1.cell? ⟨w.heap.size, 0, none⟩ = some (.int .u16 0) := (hb1.cell (by simp)).trans (by simp)
        have hc1 : w1.cell? ⟨w.heap.size, 1, none⟩ = some (.int .u16 0) := (hb1.cell (by simp)).trans (by simp)
        clear hb1
        go_wp2_with fail
        go_ret
        exact ⟨ret_str HS.out.symm, below_then HB.out HB1.out⟩
      · have hd : ((a : Int) == 0) = false := by rw [beq_eq_false_iff_ne]; omega
        clear h0
        go_wp2_with fail
        go_at_call 59
        refine (HI.out _ HB.out).mono ?_
        rintro e w1 ⟨rfl, hb1⟩
        have HB1 := Lib.hid hb1
        have hc0 : w1.cell? ⟨w.heap.size, 0, none⟩ = some (.int .u16 (a : Int)) := (hb1.cell (by simp)).trans (by simp)
        have hc1 : w1.cell? ⟨w.heap.size, 1, none⟩ = some (.int .u16 (a : Int)) := (hb1.cell (by simp)).trans (by simp)
        clear hb1
        go_wp2_with fail
        go_ret
        exact ⟨ret_str HS.out.symm, below_then HB.out HB1.out⟩
    · have HS := Lib.hid (span_two h1 h2)
      have HI := Lib.hid (fun W (h : Below w.heap.size w W) => itoa_port a ha W (HE.out.below h) (a : Int) rfl)
      have HJ := Lib.hid (fun W (h : Below w.heap.size w W) => itoa_port b hb W (HE.out.below h) (b : Int) rfl)
      have hab : ((a : Int) == (b : Int)) = false := by rw [beq_eq_false_iff_ne]; omega
      have l1 := AdrM.decDigits_len_le 4 a (by omega)
      have l2 := AdrM.decDigits_len_le 4 b (by omega)
      have hA1 := fun W => Ad.add_text (P := Tryz.prog) (decDigits a) [45] (by omega) (by simp) W
      have hA2 := fun W => Ad.add_text (P := Tryz.prog) (decDigits a ++ [45]) (decDigits b) (by simp; omega) (by omega) W
      clear l1 l2
      generalize decDigits a = da at *
      generalize decDigits b = db at *
      by_cases h0 : a = 0
      · have hd0 : ((a : Int) == 0) = true := by rw [beq_iff_eq]; omega
        have hd1 : ((b : Int) == 65535) = false := by rw [beq_eq_false_iff_ne]; omega
        clear h0 h1 h2
        go_enter Tryz.func42, Tryz.ntmps42
        go_wp2_with fail
        go_at_call 59
        refine (HI.out _ HB.out).mono ?_
        rintro e w1 ⟨rfl, hb1⟩
        have HB1 := Lib.hid (below_then HB.out hb1)
        have hc0 : w1.cell? ⟨w.heap.size, 0, none⟩ = some (.int .u16 (a : Int)) := (hb1.cell (by simp)).trans (by simp)
        have hc1 : w1.cell? ⟨w.heap.size, 1, none⟩ = some (.int .u16 (b : Int)) := (hb1.cell (by simp)).trans (by simp)
        clear hb1
        go_wp2_with fail
        go_at_call 59
        refine (HJ.out _ HB1.out).mono ?_
        rintro e w2 ⟨rfl, hb2⟩
        have HB2 := Lib.hid (below_then HB1.out hb2)
        clear hb2 hc0 hc1
        go_wp2_with fail
        go_ret
        exact ⟨ret_str (by rw [HS.out]; simp), HB2.out⟩
      · have hd0 : ((a : Int) == 0) = false := by rw [beq_eq_false_iff_ne]; omega
        clear h0 h1 h2
        go_enter Tryz.func42, Tryz.ntmps42
        go_wp2_with fail
        go_at_call 59
        refine (HI.out _ HB.out).mono ?_
        rintro e w1 ⟨rfl, hb1⟩
        have HB1 := Lib.hid (below_then HB.out hb1)
        have hc0 : w1.cell? ⟨w.heap.size, 0, none⟩ = some (.int .u16 (a : Int)) := (hb1.cell (by simp)).trans (by simp)
        have hc1 : w1.cell? ⟨w.heap.size, 1, none⟩ = some (.int .u16 (b : Int)) := (hb1.cell (by simp)).trans (by simp)
        clear hb1
        go_wp2_with fail
        go_at_call 59
        refine (HJ.out _ HB1.out).mono ?_
        rintro e w2 ⟨rfl, hb2⟩
        have HB2 := Lib.hid (below_then HB1.out hb2)
        clear hb2 hc0 hc1
        go_wp2_with fail
        go_ret
        exact ⟨ret_str (by rw [HS.out]; simp), HB2.out⟩
end Ru
end Go.Proofs.YtfbbkbjiaopnkaaGreatDoor
