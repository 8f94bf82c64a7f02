/- Layer 6: short, awake. -/
import Derived.Test.YtpdjdaifoopkcaaUdpE
import Derived.Test.YtpdjdaifoopkcaaComW
import Derived.Test.YtpdjdaifoopkcaaSumD
set_option linter.unusedVariables false
set_option linter.unusedSimpArgs false
namespace Go.Proofs.Ytpdjdaifoopkcaa
open Go.ChangeShapes Go.WideShapes Go.ChangeAt Go.RowKit Go.Mtl
namespace Ud
open TcpM (psB psN psN_le)
open UdpM (totU totU_le errU errU_le datB dat ckU ckU_le fullN)
open SumM (add add_le)
open IpM (word word_lt twoB fourB)
open Ip (ret_int MadeO Row But u8_info own_bts own_lit row_of_own)

theorem text_at {w w2 : World} {B n c : Nat} {A : Option Addr} {bs : List UInt8} (h : Bts w B A n bs) (h2 : Below B w w2) :
    (convert 23 9 (.slice A n c)).run Try.prog w2 = .ok (.string (textOf bs)) w2 :=
  run_text _ _ 5 Try.underlying23 Try.underlying5 Try.underlying9 (h.below h2)

theorem short_any (A : Option Addr) (n c : Nat) (hc : n ≤ c) (hm : c ≤ 9223372036854775807) (W : World) :
    Calls Try.prog 8 #[.slice A n c] W fun e w' => e = .returned (.slice A (min n 1600) c) ∧ W = w' := by
  by_cases h : 1600 < n
  · have HM : Hid (min n 1600 = 1600) := by show min n 1600 = 1600; omega
    go_enter Try.func8, Try.ntmps8
    go_wp2
    go_ret
    exact ⟨by rw [HM.out]; rfl, rfl⟩
  · have HM : Hid (min n 1600 = n) := by show min n 1600 = n; omega
    go_enter Try.func8, Try.ntmps8
    go_wp2
    go_ret
    exact ⟨by rw [HM.out]; rfl, rfl⟩

theorem build_aw (g0 : Nat) (w : World) (h : Row w g0 [7]) :
    Calls Try.prog 11 #[.int .u32 1, .int .u32 2, .int .u16 53, .int .u16 54, .slice (some ⟨g0, 0, none⟩) 1 1] w fun e w' =>
      ∃ g, e = .returned (.tuple #[.slice (some ⟨g, 0, none⟩) 9 9, .int .i64 0]) ∧ Hid (Row w' g (dat 1 2 53 54 [7])) ∧ Below w.heap.size w w' :=
  (build_ok 1 2 53 54 (some ⟨g0, 0, none⟩) 1 1 [7] w.heap.size w h.bts (Nat.le_refl _) (by omega) (by omega) (by omega) (by omega) (by omega) (by omega) (by omega)).mono fun e w' ⟨g, he, hr, _, hb⟩ => ⟨g, he, hr, hb⟩
theorem parse_aw (A : Option Addr) (c B : Nat) (w : World) (h : Bts w B A 10 (dat 1 2 53 54 [7] ++ [9])) (hB : B ≤ w.heap.size) (hc : 10 ≤ c) (hm : c ≤ 9223372036854775807) :
    Calls Try.prog 7 #[.int .u32 1, .int .u32 2, .slice A 10 c] w fun e w' => e = .returned (.tuple #[.int .u16 53, .int .u16 54, .int .i64 0]) ∧ Below w.heap.size w w' := by
  have hp := parse_ok 1 2 A 10 c (dat 1 2 53 54 [7] ++ [9]) B w h hB hc hm (by omega) (by omega) UdpM.aw1
  obtain ⟨a, b⟩ := UdpM.aw4
  unfold okV at hp
  rw [a, b] at hp
  exact hp
theorem parse_aw2 (g : Nat) (w : World) (h : Row w g (dat 1 2 53 54 [7])) :
    Calls Try.prog 7 #[.int .u32 1, .int .u32 3, .slice (some ⟨g, 0, none⟩) 9 9] w fun e w' => e = .returned (.tuple #[.int .u16 0, .int .u16 0, .int .i64 7]) ∧ Below w.heap.size w w' := by
  have hp := parse_bad 1 3 (some ⟨g, 0, none⟩) 9 9 (dat 1 2 53 54 [7]) w.heap.size w h.bts (Nat.le_refl _) (by omega) (by omega) (by omega) (by omega) (by rw [UdpM.aw2]; omega)
  rw [UdpM.aw2] at hp
  exact hp
theorem parse_aw3 (g : Nat) (w : World) (h : Row w g [0, 1, 0, 2, 0, 8, 0, 0]) :
    Calls Try.prog 7 #[.int .u32 1, .int .u32 3, .slice (some ⟨g, 0, none⟩) 8 8] w fun e w' => e = .returned (.tuple #[.int .u16 1, .int .u16 2, .int .i64 0]) ∧ Below w.heap.size w w' := by
  have hp := parse_ok 1 3 (some ⟨g, 0, none⟩) 8 8 [0, 1, 0, 2, 0, 8, 0, 0] w.heap.size w h.bts (Nat.le_refl _) (by omega) (by omega) (by omega) (by omega) UdpM.aw3
  exact hp

set_option maxHeartbeats 2000000 in
theorem awake_any (W : World) : Calls Try.prog 10 #[] W fun e w' => e = .returned (.bool true) ∧ Below W.heap.size W w' := by
  obtain ⟨i0, hi0, hz0, hz1, hz2⟩ := info_parts u8_info
  go_enter Try.func10, Try.ntmps10
  go_wp2_with fail
  go_at_call 11
  have bel := (Below.refl _ W).alloc (Nat.le_refl _) (.cells #[.int .u8 7] 5)
  refine (build_aw W.heap.size _ (heap_alloc_new W _)).mono ?_
  rintro e w1 ⟨g, rfl, HR1, hb1⟩
  have HB1 := Lib.hid (bel.trans (hb1.mono (by simp)))
  have HR2 : Hid (Row (w1.alloc (.cells #[.int .u8 9] 5)) g (dat 1 2 53 54 [7])) := (Below.heap_alloc w1 _ g HR1.out.lt).trans HR1.out
  have HB2 := Lib.hid (HB1.out.alloc HB1.out.size (.cells #[.int .u8 9] 5))
  have HN2 : Hid (Row (w1.alloc (.cells #[.int .u8 9] 5)) w1.heap.size [9]) := heap_alloc_new w1 _
  clear hb1 bel HR1 HB1
  go_wp2_with (refine at_slot 20 ?_
               refine wpList_append_full 10 rfl (.tmp 18) (.tmp 19) _ rfl 5 i0 Try.underlying23 hi0 hz0 hz1 hz2 _ (some ⟨g, 0, none⟩) 9 _ rfl HR2.out.bts (by omega) _ (some ⟨w1.heap.size, 0, none⟩) 1 1 _ rfl HN2.out.bts (by omega) rfl (by omega) ?_
               intro A3 c3 w3 HO3 hb3 HC3)
  go_at_call 7
  refine (parse_aw A3 c3 _ w3 (own_bts HO3.out) (Nat.le_refl _) HC3.out.1 HC3.out.2).mono ?_
  rintro e w4 ⟨rfl, hb4⟩
  have HB34 := Lib.hid (hb3.out.trans (hb4.mono hb3.out.size))
  have HR4 : Hid (Row w4 g (dat 1 2 53 54 [7])) := (HB34.out.block g HR2.out.lt).trans HR2.out
  have HB4 := Lib.hid (HB2.out.trans (HB34.out.mono HB2.out.size))
  clear hb3 hb4 HO3 HC3 HR2 HB2 HN2 HB34
  go_wp2_with fail
  go_at_call 7
  refine (parse_aw2 g _ HR4.out).mono ?_
  rintro e w5 ⟨rfl, hb5⟩
  have HB5 := Lib.hid (HB4.out.trans (hb5.mono HB4.out.size))
  have HB6 := Lib.hid (HB5.out.alloc HB5.out.size (.cells #[.int .u8 0, .int .u8 1, .int .u8 0, .int .u8 2, .int .u8 0, .int .u8 8, .int .u8 0, .int .u8 0] 5))
  clear hb5 HB4 HR4 HB5
  go_wp2_with fail
  go_at_call 7
  refine (parse_aw3 w5.heap.size _ (heap_alloc_new w5 _)).mono ?_
  rintro e w7 ⟨rfl, hb7⟩
  have HB7 := Lib.hid (HB6.out.trans (hb7.mono HB6.out.size))
  clear hb7 HB6
  go_wp2_with fail
  go_ret
  exact ⟨rfl, HB7.out⟩

end Ud
end Go.Proofs.Ytpdjdaifoopkcaa
