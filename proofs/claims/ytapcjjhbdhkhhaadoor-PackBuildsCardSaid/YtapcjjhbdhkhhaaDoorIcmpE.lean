/- Layer 7: the contract of the reference's Build. -/
import Derived.Test.YtapcjjhbdhkhhaaDoorIcmpD
set_option linter.unusedVariables false
set_option linter.unusedSimpArgs false
namespace Go.Proofs.YtapcjjhbdhkhhaaDoor
open Go.ChangeShapes Go.WideShapes Go.ChangeAt Go.RowKit Go.Mtl
namespace Ic
open IcM (echoB echo_yes echo_no errI errI_le msgB msg ckI ckI_le)
open SumM (add add_le)
open IpM (word word_lt twoB)
open Ip (ret_int MadeO Row But u8_info own_bts own_lit row_of_own)

/-- What the reference's Build answers. -/
def RBuilt (W : World) (kd id : Nat) (x : List UInt8) (e : Ending) (w' : World) : Prop :=
  ∃ A c, e = .returned (.tuple #[.slice A (8 + x.length) c, .int .i64 0]) ∧ Bts w' w'.heap.size A (8 + x.length) (msg kd id x) ∧ Below W.heap.size W w'

/-- With room for what lies behind it. -/
def RBuiltC (W : World) (kd id : Nat) (x : List UInt8) (e : Ending) (w' : World) : Prop :=
  ∃ A c, e = .returned (.tuple #[.slice A (8 + x.length) c, .int .i64 0]) ∧ Bts w' w'.heap.size A (8 + x.length) (msg kd id x) ∧ (8 + x.length ≤ c ∧ c ≤ 9223372036854775807) ∧ Below W.heap.size W w'

theorem refBuild_bad (kd : Nat) (id : Int) (A : Option Addr) (n c : Nat) (W : World) (h : echoB kd = false) :
    Calls Tryd.prog 17 #[.int .u8 (kd : Int), .int .u16 id, .slice A n c] W fun e w' => e = .returned (.tuple #[.slice none 0 0, .int .i64 10]) ∧ Below W.heap.size W w' := by
  have d8 : ((kd : Int) != 8) = true := by have := (echo_no h).1; simp; omega
  have d0 : ((kd : Int) != 0) = true := by have := (echo_no h).2; simp; omega
  clear h
  go_enter Tryd.func17, Tryd.ntmps17
  go_wp2_with fail
  go_ret2
  exact ⟨rfl, Below.refl _ _⟩

theorem refBuild_long (kd : Nat) (id : Int) (A : Option Addr) (n c : Nat) (W : World) (h : echoB kd = true) (hc : n ≤ c) (hm : c ≤ 9223372036854775807) (hn : 1472 < n) :
    Calls Tryd.prog 17 #[.int .u8 (kd : Int), .int .u16 id, .slice A n c] W fun e w' => e = .returned (.tuple #[.slice none 0 0, .int .i64 2]) ∧ Below W.heap.size W w' := by
  rcases echo_yes h with rfl | rfl
  all_goals
    clear h
    go_enter Tryd.func17, Tryd.ntmps17
    go_wp2_with fail
    go_ret2
    exact ⟨rfl, Below.refl _ _⟩

theorem lit4 (kd : Nat) (hk : kd < 256) (w : World) : (w.alloc (.cells #[.int .u8 (kd : Int), .int .u8 0, .int .u8 0, .int .u8 0] 5)).ownsRow w.heap.size 5 1 (.slice (some ⟨w.heap.size, 0, none⟩) 4 4) 4 (bvs [UInt8.ofNat kd, 0, 0, 0]) :=
  own_lit w _ 4 rfl (by omega) _ (by simp [bvs]; omega)
theorem lit2 (kd : Nat) (hk : kd < 256) (w : World) : (w.alloc (.cells #[.int .u8 (kd : Int), .int .u8 0] 5)).ownsRow w.heap.size 5 1 (.slice (some ⟨w.heap.size, 0, none⟩) 2 2) 2 (bvs [UInt8.ofNat kd, 0]) :=
  own_lit w _ 2 rfl (by omega) _ (by simp [bvs]; omega)
theorem lit0 (w : World) : (w.alloc (.cells #[.int .u8 0, .int .u8 0] 5)).ownsRow w.heap.size 5 1 (.slice (some ⟨w.heap.size, 0, none⟩) 2 2) 2 (bvs [0, 0]) :=
  own_lit w [0, 0] 2 rfl (by omega) _ rfl

theorem msg0_is (kd id : Nat) (x : List UInt8) : [UInt8.ofNat kd, 0, 0, 0] ++ (twoB id ++ [0, 0] ++ x) = msgB 0 kd id x := by simp [msgB, twoB]
theorem msgK_is (K kd id : Nat) (x : List UInt8) : [UInt8.ofNat kd, 0] ++ twoB K ++ (twoB id ++ [0, 0] ++ x) = msgB K kd id x := by simp [msgB, twoB]

set_option maxHeartbeats 8000000 in
theorem refBuild_cap (kd id : Nat) (A : Option Addr) (n c : Nat) (x : List UInt8) (B : Nat) (W : World) (h : echoB kd = true) (hb : Bts W B A n x) (hB : B ≤ W.heap.size) (hc : n ≤ c) (hm : c ≤ 9223372036854775807) (hn : n ≤ 1472)
    (hid : id < 65536) :
    Calls Tryd.prog 17 #[.int .u8 (kd : Int), .int .u16 (id : Int), .slice A n c] W (RBuiltC W kd id x) := by
  obtain ⟨i0, hi0, hz0, hz1, hz2⟩ := info_parts u8_info
  have HL := Lib.hid hb.len
  have HX := Lib.hid hb
  clear hb
  obtain ⟨N, hN⟩ : ∃ N, 8 + n = N := ⟨_, rfl⟩
  have HN := Lib.hid hN
  have hN1 : 8 ≤ N := by omega
  have hN2 : N ≤ 1480 := by omega
  have HXN : Hid (8 + x.length = N) := by show _ = _; rw [HL.out]; exact HN.out
  have HT0 : Hid (4 + n = N - 4) := by show _ = _; omega
  have HT1 : Hid (4 + (N - 4) = N) := by show _ = _; omega
  clear hN
  have hk : kd < 256 := by rcases echo_yes h with rfl | rfl <;> omega
  have HA : Hid (add 0 (msgB 0 kd id x) = 65535 - ckI kd id x) := by show _ = _; unfold ckI; have := add_le 0 (msgB 0 kd id x); omega
  have hkl := ckI_le kd id x
  have HK : Hid (msgB (ckI kd id x) kd id x = msg kd id x) := by show _ = _; rfl
  generalize ckI kd id x = K at HA HK hkl
  have eK : (65535 : Int) - ((65535 - K : Nat) : Int) = (K : Int) := by omega
  have hc8 := echo_yes h
  clear h
  by_cases h8 : kd = 8
  · have d8 : ((kd : Int) != 8) = false := by simp; omega
    clear hc8 h8
    go_enter Tryd.func17, Tryd.ntmps17
    go_wp2_with fail
    go_at_call 31
    refine (Ip.refPut_any id hid W).mono ?_
    rintro e w1 ⟨A1, c1, rfl, ho1, hb1, hc1⟩
    have H1 := Lib.hid ho1
    have HB1 := Lib.hid hb1
    clear ho1 hb1
    go_wp2_with (first
      | (refine at_slot 23 ?_
         refine wpList_append_hid (W0 := W) 4 rfl (.tmp 21) (.tmp 22) _ rfl 5 i0 Tryd.underlying26 hi0 hz0 hz1 hz2 _ 2 _ rfl (own_below H1.out ((Below.refl _ w1).alloc (Nat.le_refl _) _)) (HB1.out.alloc HB1.out.size _) _ (some ⟨w1.heap.size, 0, none⟩) 2 2 _ rfl (own_bts (lit0 w1)) rfl (by omega) ?_
         intro A2 c2 w2 H2 HB2 _ _
         clear H1 HB1)
      | (refine at_slot 25 ?_
         refine wpList_append_hid (W0 := W) (N - 4) rfl (.tmp 23) (.tmp 24) _ rfl 5 i0 Tryd.underlying26 hi0 hz0 hz1 hz2 _ 4 _ rfl H2.out HB2.out B A n c x rfl (HX.out.below (HB2.out.mono hB)) HT0.out (by omega) ?_
         intro A3 c3 w3 H3 HB3 _ HC3
         clear H2 HB2)
      | (refine at_slot 29 ?_
         refine wpList_append_hid (W0 := w3) N rfl (.tmp 27) (.tmp 28) _ rfl 5 i0 Tryd.underlying26 hi0 hz0 hz1 hz2 _ 4 _ rfl (lit4 kd hk w3) ((Below.refl _ w3).alloc (Nat.le_refl _) _) w3.heap.size A3 (N - 4) c3 _ rfl ((own_bts H3.out).alloc (Nat.le_refl _) _) HT1.out (by omega) ?_
         intro A4 c4 w4 H4 HB4 _ HC4))
    go_at_call 32
    refine (Sm.refAdd_any 0 A4 N c4 (msgB 0 kd id x) w4 w4.heap.size (by have h := own_bts H4.out; rw [msg0_is kd id x] at h; exact h) (by omega) HC4.out.1 (by omega) HC4.out.2).mono ?_
    rintro e w' ⟨rfl, rfl⟩
    rw [HA.out]
    have H5 := Lib.hid (own_below H3.out HB4.out)
    have HB5 := Lib.hid (HB3.out.trans (HB4.out.mono HB3.out.size))
    clear HA H3 H4 HB4 HB3 HC4 HC3
    go_wp2_with fail
    go_at_call 31
    have H6 := Lib.hid (lit2 kd hk w4)
    refine (Ip.refPut_any K (by omega) (w4.alloc (.cells #[.int .u8 (kd : Int), .int .u8 0] 5))).mono ?_
    rintro e w6 ⟨A6, c6, rfl, ho6, hb6, hc6⟩
    have H7 := Lib.hid ho6
    have H8 := Lib.hid (own_below H6.out hb6)
    have HB6 := Lib.hid (((Below.refl w4.heap.size w4).alloc (Nat.le_refl _) (.cells #[.int .u8 (kd : Int), .int .u8 0] 5)).trans (hb6.mono (by simp)))
    clear ho6 hb6 H6 hc6
    go_wp2_with (first
      | (refine at_slot 36 ?_
         refine wpList_append_hid (W0 := w4) 4 rfl (.tmp 33) (.tmp 35) _ rfl 5 i0 Tryd.underlying26 hi0 hz0 hz1 hz2 _ 2 _ rfl H8.out HB6.out _ A6 2 c6 _ rfl (own_bts H7.out) rfl (by omega) ?_
         intro A7 c7 w7 H9 HB7 _ _
         clear H7 H8 HB6)
      | (refine at_slot 38 ?_
         refine wpList_append_hid (W0 := w4) N rfl (.tmp 36) (.tmp 37) _ rfl 5 i0 Tryd.underlying26 hi0 hz0 hz1 hz2 _ 4 _ rfl H9.out HB7.out w4.heap.size A3 (N - 4) c3 _ rfl ((own_bts H5.out).below HB7.out) HT1.out (by omega) ?_
         intro A8 c8 w8 H10 HB8 _ HC8
         clear H9 HB7))
    go_ret2
    have hfin := own_bts H10.out
    rw [msgK_is K kd id x, HK.out] at hfin
    exact ⟨A8, c8, by rw [HXN.out]; rfl, by rw [HXN.out]; exact hfin, by rw [HXN.out]; exact HC8.out, HB5.out.trans (HB8.out.mono HB5.out.size)⟩
  · have d8 : ((kd : Int) != 8) = true := by simp; omega
    have d0 : ((kd : Int) != 0) = false := by simp; omega
    clear hc8 h8
    go_enter Tryd.func17, Tryd.ntmps17
    go_wp2_with fail
    go_at_call 31
    refine (Ip.refPut_any id hid W).mono ?_
    rintro e w1 ⟨A1, c1, rfl, ho1, hb1, hc1⟩
    have H1 := Lib.hid ho1
    have HB1 := Lib.hid hb1
    clear ho1 hb1
    go_wp2_with (first
      | (refine at_slot 23 ?_
         refine wpList_append_hid (W0 := W) 4 rfl (.tmp 21) (.tmp 22) _ rfl 5 i0 Tryd.underlying26 hi0 hz0 hz1 hz2 _ 2 _ rfl (own_below H1.out ((Below.refl _ w1).alloc (Nat.le_refl _) _)) (HB1.out.alloc HB1.out.size _) _ (some ⟨w1.heap.size, 0, none⟩) 2 2 _ rfl (own_bts (lit0 w1)) rfl (by omega) ?_
         intro A2 c2 w2 H2 HB2 _ _
         clear H1 HB1)
      | (refine at_slot 25 ?_
         refine wpList_append_hid (W0 := W) (N - 4) rfl (.tmp 23) (.tmp 24) _ rfl 5 i0 Tryd.underlying26 hi0 hz0 hz1 hz2 _ 4 _ rfl H2.out HB2.out B A n c x rfl (HX.out.below (HB2.out.mono hB)) HT0.out (by omega) ?_
         intro A3 c3 w3 H3 HB3 _ HC3
         clear H2 HB2)
      | (refine at_slot 29 ?_
         refine wpList_append_hid (W0 := w3) N rfl (.tmp 27) (.tmp 28) _ rfl 5 i0 Tryd.underlying26 hi0 hz0 hz1 hz2 _ 4 _ rfl (lit4 kd hk w3) ((Below.refl _ w3).alloc (Nat.le_refl _) _) w3.heap.size A3 (N - 4) c3 _ rfl ((own_bts H3.out).alloc (Nat.le_refl _) _) HT1.out (by omega) ?_
         intro A4 c4 w4 H4 HB4 _ HC4))
    go_at_call 32
    refine (Sm.refAdd_any 0 A4 N c4 (msgB 0 kd id x) w4 w4.heap.size (by have h := own_bts H4.out; rw [msg0_is kd id x] at h; exact h) (by omega) HC4.out.1 (by omega) HC4.out.2).mono ?_
    rintro e w' ⟨rfl, rfl⟩
    rw [HA.out]
    have H5 := Lib.hid (own_below H3.out HB4.out)
    have HB5 := Lib.hid (HB3.out.trans (HB4.out.mono HB3.out.size))
    clear HA H3 H4 HB4 HB3 HC4 HC3
    go_wp2_with fail
    go_at_call 31
    have H6 := Lib.hid (lit2 kd hk w4)
    refine (Ip.refPut_any K (by omega) (w4.alloc (.cells #[.int .u8 (kd : Int), .int .u8 0] 5))).mono ?_
    rintro e w6 ⟨A6, c6, rfl, ho6, hb6, hc6⟩
    have H7 := Lib.hid ho6
    have H8 := Lib.hid (own_below H6.out hb6)
    have HB6 := Lib.hid (((Below.refl w4.heap.size w4).alloc (Nat.le_refl _) (.cells #[.int .u8 (kd : Int), .int .u8 0] 5)).trans (hb6.mono (by simp)))
    clear ho6 hb6 H6 hc6
    go_wp2_with (first
      | (refine at_slot 36 ?_
         refine wpList_append_hid (W0 := w4) 4 rfl (.tmp 33) (.tmp 35) _ rfl 5 i0 Tryd.underlying26 hi0 hz0 hz1 hz2 _ 2 _ rfl H8.out HB6.out _ A6 2 c6 _ rfl (own_bts H7.out) rfl (by omega) ?_
         intro A7 c7 w7 H9 HB7 _ _
         clear H7 H8 HB6)
      | (refine at_slot 38 ?_
         refine wpList_append_hid (W0 := w4) N rfl (.tmp 36) (.tmp 37) _ rfl 5 i0 Tryd.underlying26 hi0 hz0 hz1 hz2 _ 4 _ rfl H9.out HB7.out w4.heap.size A3 (N - 4) c3 _ rfl ((own_bts H5.out).below HB7.out) HT1.out (by omega) ?_
         intro A8 c8 w8 H10 HB8 _ HC8
         clear H9 HB7))
    go_ret2
    have hfin := own_bts H10.out
    rw [msgK_is K kd id x, HK.out] at hfin
    exact ⟨A8, c8, by rw [HXN.out]; rfl, by rw [HXN.out]; exact hfin, by rw [HXN.out]; exact HC8.out, HB5.out.trans (HB8.out.mono HB5.out.size)⟩

theorem refBuild_ok (kd id : Nat) (A : Option Addr) (n c : Nat) (x : List UInt8) (B : Nat) (W : World) (h : echoB kd = true) (hb : Bts W B A n x) (hB : B ≤ W.heap.size) (hc : n ≤ c) (hm : c ≤ 9223372036854775807) (hn : n ≤ 1472)
    (hid : id < 65536) :
    Calls Tryd.prog 17 #[.int .u8 (kd : Int), .int .u16 (id : Int), .slice A n c] W (RBuilt W kd id x) :=
  (refBuild_cap kd id A n c x B W h hb hB hc hm hn hid).mono fun e w' ⟨A, c, h1, h2, _, h4⟩ => ⟨A, c, h1, h2, h4⟩

end Ic
end Go.Proofs.YtapcjjhbdhkhhaaDoor
