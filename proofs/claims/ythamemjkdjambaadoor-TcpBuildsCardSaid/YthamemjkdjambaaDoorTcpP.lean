/- Layer 5: short, awake; the walks of TcpParses and TcpFlags. -/
import Derived.Test.YthamemjkdjambaaDoorTcpE
import Derived.Test.YthamemjkdjambaaDoorTcpN
set_option linter.unusedVariables false
set_option linter.unusedSimpArgs false
namespace Go.Proofs.YthamemjkdjambaaDoor
open Go.ChangeShapes Go.WideShapes Go.ChangeAt Go.RowKit Go.Mtl
namespace Tc
open TcpM (saneB psB psN totN psN_le totN_le errT errT_le segB seg ckN row1)
open SumM (add add_le)
open IpM (word word_lt twoB fourB)
open Ip (ret_int MadeO Row But u8_info own_bts own_lit)

theorem text_at {w w2 : World} {B n c : Nat} {A : Option Addr} {bs : List UInt8} (h : Bts w B A n bs) (h2 : Below B w w2) :
    (convert 23 9 (.slice A n c)).run Tryd.prog w2 = .ok (.string (textOf bs)) w2 :=
  run_text _ _ 5 Tryd.underlying23 Tryd.underlying5 Tryd.underlying9 (h.below h2)

theorem short_any (A : Option Addr) (n c : Nat) (hc : n ≤ c) (hm : c ≤ 9223372036854775807) (W : World) :
    Calls Tryd.prog 8 #[.slice A n c] W fun e w' => e = .returned (.slice A (min n 1600) c) ∧ W = w' := by
  by_cases h : 1600 < n
  · have HM : Hid (min n 1600 = 1600) := by show min n 1600 = 1600; omega
    go_enter Tryd.func8, Tryd.ntmps8
    go_wp2
    go_ret
    exact ⟨by rw [HM.out]; rfl, rfl⟩
  · have HM : Hid (min n 1600 = n) := by show min n 1600 = n; omega
    go_enter Tryd.func8, Tryd.ntmps8
    go_wp2
    go_ret
    exact ⟨by rw [HM.out]; rfl, rfl⟩

theorem build_aw (g0 : Nat) (w : World) (h : Row w g0 [7]) (he : Env w) :
    Calls Tryd.prog 11 #[.int .u32 1, .int .u32 2, .int .u16 80, .int .u16 81, .int .u8 2, .slice (some ⟨g0, 0, none⟩) 1 1] w fun e w' =>
      ∃ g, e = .returned (.tuple #[.slice (some ⟨g, 0, none⟩) 21 21, .int .i64 0]) ∧ Hid (Row w' g (seg 1 2 80 81 2 [7])) ∧ Below w.heap.size w w' :=
  (build_ok 1 2 80 81 2 (some ⟨g0, 0, none⟩) 1 1 [7] w.heap.size w h.bts (Nat.le_refl _) (by omega) (by omega) (by omega) (by omega) (by omega) (by omega) (by omega) (by omega) (by decide) he).mono fun e w' ⟨g, he, hr, _, hb⟩ => ⟨g, he, hr, hb⟩
theorem parse_aw (g : Nat) (w : World) (h : Row w g (seg 1 2 80 81 2 [7])) (he : Env w) :
    Calls Tryd.prog 7 #[.int .u32 1, .int .u32 2, .slice (some ⟨g, 0, none⟩) 21 21] w fun e w' => e = .returned (.tuple #[.int .u16 80, .int .u16 81, .int .u8 2, .int .i64 0]) ∧ Below w.heap.size w w' := by
  have hp := parse_ok 1 2 (some ⟨g, 0, none⟩) 21 21 (seg 1 2 80 81 2 [7]) w.heap.size w h.bts (Nat.le_refl _) (by omega) (by omega) (by omega) (by omega) he TcpM.aw1
  obtain ⟨a, b, c⟩ := TcpM.aw4
  unfold okV at hp
  rw [a, b, c] at hp
  exact hp
theorem parse_aw2 (g : Nat) (w : World) (h : Row w g (seg 1 2 80 81 2 [7])) (he : Env w) :
    Calls Tryd.prog 7 #[.int .u32 1, .int .u32 3, .slice (some ⟨g, 0, none⟩) 21 21] w fun e w' => e = .returned (.tuple #[.int .u16 0, .int .u16 0, .int .u8 0, .int .i64 7]) ∧ Below w.heap.size w w' := by
  have hp := parse_bad 1 3 (some ⟨g, 0, none⟩) 21 21 (seg 1 2 80 81 2 [7]) w.heap.size w h.bts (Nat.le_refl _) (by omega) (by omega) (by omega) (by omega) he (by rw [TcpM.aw2]; omega)
  rw [TcpM.aw2] at hp
  exact hp
theorem sane_aw (w : World) (he : Env w) : Calls Tryd.prog 13 #[.int .u8 18] w fun e w' => e = .returned (.bool true) ∧ Below w.heap.size w w' :=
  sane_any 18 (by omega) true (by decide) w he
theorem sane_aw2 (w : World) (he : Env w) : Calls Tryd.prog 13 #[.int .u8 1] w fun e w' => e = .returned (.bool false) ∧ Below w.heap.size w w' :=
  sane_any 1 (by omega) false (by decide) w he
theorem pseudo_aw (w : World) : Calls Tryd.prog 15 #[.int .u8 6, .int .u32 65536, .int .u32 2, .int .i64 5] w fun e w' => e = .returned (.int .u16 14) ∧ Below w.heap.size w w' := by
  have h := pseudo_any 6 65536 2 5 5 (by omega) (by omega) (by omega) (by omega) rfl w
  rw [TcpM.aw3] at h
  exact h

set_option maxHeartbeats 2000000 in
theorem awake_any (W : World) (he : Env W) : Calls Tryd.prog 10 #[] W fun e w' => e = .returned (.bool true) ∧ Below W.heap.size W w' := by
  go_enter Tryd.func10, Tryd.ntmps10
  go_wp2_with fail
  go_at_call 11
  have bel := (Below.refl _ W).alloc (Nat.le_refl _) (.cells #[.int .u8 7] 5)
  refine (build_aw W.heap.size _ (heap_alloc_new W _) (he.alloc _)).mono ?_
  rintro e w1 ⟨g, rfl, HR1, hb1⟩
  have HB1 := Lib.hid (bel.trans (hb1.mono (by simp)))
  have HE1 := Lib.hid ((he.alloc _).below hb1 (Nat.le_refl _))
  clear hb1 bel
  go_wp2_with fail
  go_at_call 7
  refine (parse_aw g _ HR1.out HE1.out).mono ?_
  rintro e w2 ⟨rfl, hb2⟩
  have HR2 : Hid (Row w2 g (seg 1 2 80 81 2 [7])) := (hb2.block g HR1.out.lt).trans HR1.out
  have HB2 := Lib.hid (HB1.out.trans (hb2.mono HB1.out.size))
  have HE2 := Lib.hid (HE1.out.below hb2 (Nat.le_refl _))
  clear hb2 HB1 HE1 HR1
  go_wp2_with fail
  go_at_call 7
  refine (parse_aw2 g _ HR2.out HE2.out).mono ?_
  rintro e w3 ⟨rfl, hb3⟩
  have HB3 := Lib.hid (HB2.out.trans (hb3.mono HB2.out.size))
  have HE3 := Lib.hid (HE2.out.below hb3 (Nat.le_refl _))
  clear hb3 HB2 HE2 HR2
  go_wp2_with fail
  go_at_call 13
  refine (sane_aw _ HE3.out).mono ?_
  rintro e w4 ⟨rfl, hb4⟩
  have HB4 := Lib.hid (HB3.out.trans (hb4.mono HB3.out.size))
  have HE4 := Lib.hid (HE3.out.below hb4 (Nat.le_refl _))
  clear hb4 HB3 HE3
  go_wp2_with fail
  go_at_call 13
  refine (sane_aw2 _ HE4.out).mono ?_
  rintro e w5 ⟨rfl, hb5⟩
  have HB5 := Lib.hid (HB4.out.trans (hb5.mono HB4.out.size))
  clear hb5 HB4 HE4
  go_wp2_with fail
  go_at_call 15
  refine (pseudo_aw _).mono ?_
  rintro e w6 ⟨rfl, hb6⟩
  have HB6 := Lib.hid (HB5.out.trans (hb6.mono HB5.out.size))
  clear hb6 HB5
  go_wp2_with fail
  go_ret
  exact ⟨rfl, HB6.out⟩

end Tc
end Go.Proofs.YthamemjkdjambaaDoor
