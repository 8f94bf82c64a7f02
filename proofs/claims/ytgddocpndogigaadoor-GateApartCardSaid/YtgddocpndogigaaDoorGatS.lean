/- Layer 14: the walk of GateApart. -/
import Derived.Test.YtgddocpndogigaaDoorGatR
set_option linter.unusedVariables false
set_option linter.unusedSimpArgs false
namespace Go.Proofs.YtgddocpndogigaaDoor
open Go.ChangeShapes Go.WideShapes Go.ChangeAt Go.RowKit Go.Mtl
namespace Ga
open GatM (gI Fit)

set_option maxHeartbeats 8000000 in
theorem gateApart_walk (w n l : Int) (W : World) (he : Env W) (hw : 0 ≤ w ∧ w ≤ 18446744073709551615) (hn : -9223372036854775808 ≤ n ∧ n ≤ 9223372036854775807) (hl : -9223372036854775808 ≤ l ∧ l ≤ 9223372036854775807) :
    Calls Tryd.prog 6 #[.int .u64 w, .int .i64 n, .int .i64 l] W fun e w' => e = .returned (.bool true) ∧ Below W.heap.size W w' := by
  obtain ⟨c, k, v, hf, rfl⟩ := GatM.word_is w hw.1 (by omega)
  obtain ⟨m, hm⟩ : ∃ m, later c n = m := ⟨_, rfl⟩
  have hlt := later_fit (n := n) hf
  rw [hm] at hlt
  have FT : Hid (Fit m k v) := ⟨hlt.1, hlt.2.1, hf.k0, hf.k1, hf.v0, hf.v1⟩
  have HT := Lib.hid (fun W he => hm ▸ tick_any hf hn.1 hn.2 W he : ∀ W : World, Env W → Calls Tryd.prog 18 #[.int .u64 (gI c k v), .int .i64 n] W fun e w' => e = .returned (.int .u64 (gI m k v)) ∧ ∃ n, w' = W.drewN n)
  have d0 : decide (m < c) = false := by simp; omega
  have H := Lib.hid hf
  have HE0 := Lib.hid he
  have HB0 := Lib.hid (Below.refl W.heap.size W)
  clear hw hn hm hlt he
  by_cases hs : v = 4095
  · have SY : Hid (SW v false v) := .inr ⟨rfl, rfl, hs⟩
    have FS := Lib.hid (SW_fit H.out SY.out)
    clear hs
    by_cases hx : l ≤ k
    · have EY : Hid (EN k l false k) := .inr ⟨rfl, rfl, .inl hx⟩
      clear hx
      go_enter Tryd.func6, Tryd.ntmps6
      go_wp2_with fail
      go_at_call 10
      refine (unpack_lit H.out _ HE0.out).mono ?_
      rintro e w1 ⟨rfl, hb⟩
      have HB1 := Lib.hid ((HB0.out.trans hb).alloc hb.size (.cells (gtc v k c) 23))
      have HE1 := Lib.hid ((HE0.out.below hb (Nat.le_refl _)).alloc (.cells (gtc v k c) 23))
      have HG1 := Lib.hid (Blk.box w1 (gtc v k c) 23)
      clear hb
      go_wp2_with fail
      go_at_call 18
      refine (quiet_below (HT.out _ HE1.out)).mono ?_
      rintro e w2 ⟨rfl, hb⟩
      have HB2 := Lib.hid (HB1.out.trans (hb.mono HB1.out.size))
      have HE2 := Lib.hid (HE1.out.below hb (Nat.le_refl _))
      have HG2 := Lib.hid (HG1.out.next hb)
      clear hb
      go_wp2_with fail
      go_at_call 10
      refine (unpack_lit FT.out _ HE2.out).mono ?_
      rintro e w3 ⟨rfl, hb⟩
      have HB3 := Lib.hid ((HB2.out.trans (hb.mono HB2.out.size)).alloc (Nat.le_trans HB2.out.size hb.size) (.cells (gtc v k m) 23))
      have HE3 := Lib.hid ((HE2.out.below hb (Nat.le_refl _)).alloc (.cells (gtc v k m) 23))
      have HG3 := Lib.hid ((HG2.out.next hb).alloc (.cells (gtc v k m) 23))
      have HT3 := Lib.hid (Blk.box w3 (gtc v k m) 23)
      obtain ⟨x0, x1, x2⟩ := gt_cells HG3.out
      obtain ⟨y0, y1, y2⟩ := gt_cells HT3.out
      clear hb
      go_wp2_with fail
      go_at_call 12
      refine (enter_any H.out EY.out _ HE3.out).mono ?_
      rintro e w6 ⟨rfl, hb⟩
      have HB6 := Lib.hid (HB3.out.trans (hb.mono HB3.out.size))
      have HE6 := Lib.hid (HE3.out.below hb (Nat.le_refl _))
      have HG6 := Lib.hid (HG3.out.next hb)
      clear hb x0 x1 x2 y0 y1 y2
      go_wp2_with fail
      go_at_call 16
      refine (swap_any H.out SY.out _ HE6.out).mono ?_
      rintro e w7 ⟨rfl, hb⟩
      have HB7 := Lib.hid (HB6.out.trans (hb.mono HB6.out.size))
      have HE7 := Lib.hid (HE6.out.below hb (Nat.le_refl _))
      have HG7 := Lib.hid (HG6.out.next hb)
      clear hb
      go_wp2_with fail
      go_at_call 10
      refine (unpack_lit FS.out _ HE7.out).mono ?_
      rintro e w8 ⟨rfl, hb⟩
      have HB8 := Lib.hid ((HB7.out.trans (hb.mono HB7.out.size)).alloc (Nat.le_trans HB7.out.size hb.size) (.cells (gtc v k c) 23))
      have HE8 := Lib.hid ((HE7.out.below hb (Nat.le_refl _)).alloc (.cells (gtc v k c) 23))
      have HG8 := Lib.hid ((HG7.out.next hb).alloc (.cells (gtc v k c) 23))
      have HS8 := Lib.hid (Blk.box w8 (gtc v k c) 23)
      clear hb
      go_wp2_with fail
      go_at_call 9
      refine (awake_any _ HE8.out).mono ?_
      rintro e w9 ⟨rfl, hb⟩
      have HB9 := Lib.hid (HB8.out.trans (hb.mono HB8.out.size))
      have HG9 := Lib.hid (HG8.out.next hb)
      have HS9 := Lib.hid (HS8.out.next hb)
      obtain ⟨x0, x1, x2⟩ := gt_cells HG9.out
      obtain ⟨y0, y1, y2⟩ := gt_cells HS9.out
      clear hb
      go_wp2_with fail
      go_ret
      exact ⟨rfl, HB9.out⟩
    · by_cases hk : k = 4095
      · have EY : Hid (EN k l false k) := .inr ⟨rfl, rfl, .inr hk⟩
        clear hk hx
        go_enter Tryd.func6, Tryd.ntmps6
        go_wp2_with fail
        go_at_call 10
        refine (unpack_lit H.out _ HE0.out).mono ?_
        rintro e w1 ⟨rfl, hb⟩
        have HB1 := Lib.hid ((HB0.out.trans hb).alloc hb.size (.cells (gtc v k c) 23))
        have HE1 := Lib.hid ((HE0.out.below hb (Nat.le_refl _)).alloc (.cells (gtc v k c) 23))
        have HG1 := Lib.hid (Blk.box w1 (gtc v k c) 23)
        clear hb
        go_wp2_with fail
        go_at_call 18
        refine (quiet_below (HT.out _ HE1.out)).mono ?_
        rintro e w2 ⟨rfl, hb⟩
        have HB2 := Lib.hid (HB1.out.trans (hb.mono HB1.out.size))
        have HE2 := Lib.hid (HE1.out.below hb (Nat.le_refl _))
        have HG2 := Lib.hid (HG1.out.next hb)
        clear hb
        go_wp2_with fail
        go_at_call 10
        refine (unpack_lit FT.out _ HE2.out).mono ?_
        rintro e w3 ⟨rfl, hb⟩
        have HB3 := Lib.hid ((HB2.out.trans (hb.mono HB2.out.size)).alloc (Nat.le_trans HB2.out.size hb.size) (.cells (gtc v k m) 23))
        have HE3 := Lib.hid ((HE2.out.below hb (Nat.le_refl _)).alloc (.cells (gtc v k m) 23))
        have HG3 := Lib.hid ((HG2.out.next hb).alloc (.cells (gtc v k m) 23))
        have HT3 := Lib.hid (Blk.box w3 (gtc v k m) 23)
        obtain ⟨x0, x1, x2⟩ := gt_cells HG3.out
        obtain ⟨y0, y1, y2⟩ := gt_cells HT3.out
        clear hb
        go_wp2_with fail
        go_at_call 12
        refine (enter_any H.out EY.out _ HE3.out).mono ?_
        rintro e w6 ⟨rfl, hb⟩
        have HB6 := Lib.hid (HB3.out.trans (hb.mono HB3.out.size))
        have HE6 := Lib.hid (HE3.out.below hb (Nat.le_refl _))
        have HG6 := Lib.hid (HG3.out.next hb)
        clear hb x0 x1 x2 y0 y1 y2
        go_wp2_with fail
        go_at_call 16
        refine (swap_any H.out SY.out _ HE6.out).mono ?_
        rintro e w7 ⟨rfl, hb⟩
        have HB7 := Lib.hid (HB6.out.trans (hb.mono HB6.out.size))
        have HE7 := Lib.hid (HE6.out.below hb (Nat.le_refl _))
        have HG7 := Lib.hid (HG6.out.next hb)
        clear hb
        go_wp2_with fail
        go_at_call 10
        refine (unpack_lit FS.out _ HE7.out).mono ?_
        rintro e w8 ⟨rfl, hb⟩
        have HB8 := Lib.hid ((HB7.out.trans (hb.mono HB7.out.size)).alloc (Nat.le_trans HB7.out.size hb.size) (.cells (gtc v k c) 23))
        have HE8 := Lib.hid ((HE7.out.below hb (Nat.le_refl _)).alloc (.cells (gtc v k c) 23))
        have HG8 := Lib.hid ((HG7.out.next hb).alloc (.cells (gtc v k c) 23))
        have HS8 := Lib.hid (Blk.box w8 (gtc v k c) 23)
        clear hb
        go_wp2_with fail
        go_at_call 9
        refine (awake_any _ HE8.out).mono ?_
        rintro e w9 ⟨rfl, hb⟩
        have HB9 := Lib.hid (HB8.out.trans (hb.mono HB8.out.size))
        have HG9 := Lib.hid (HG8.out.next hb)
        have HS9 := Lib.hid (HS8.out.next hb)
        obtain ⟨x0, x1, x2⟩ := gt_cells HG9.out
        obtain ⟨y0, y1, y2⟩ := gt_cells HS9.out
        clear hb
        go_wp2_with fail
        go_ret
        exact ⟨rfl, HB9.out⟩
      · have EY : Hid (EN k l true (k + 1)) := .inl ⟨rfl, rfl, hx, hk⟩
        have FE := Lib.hid (EN_fit H.out EY.out)
        have LY : Hid (LV (k + 1) true k) := .inl ⟨rfl, by omega, by have := H.out.k0; omega⟩
        have hy := IntWalk.wrap64_in (k + 1) (by have := H.out.k0; have := H.out.k1; omega)
        have d1 : decide (k + 1 > l) = false := by simp; omega
        clear hx hk
        go_enter Tryd.func6, Tryd.ntmps6
        go_wp2_with fail
        go_at_call 10
        refine (unpack_lit H.out _ HE0.out).mono ?_
        rintro e w1 ⟨rfl, hb⟩
        have HB1 := Lib.hid ((HB0.out.trans hb).alloc hb.size (.cells (gtc v k c) 23))
        have HE1 := Lib.hid ((HE0.out.below hb (Nat.le_refl _)).alloc (.cells (gtc v k c) 23))
        have HG1 := Lib.hid (Blk.box w1 (gtc v k c) 23)
        clear hb
        go_wp2_with fail
        go_at_call 18
        refine (quiet_below (HT.out _ HE1.out)).mono ?_
        rintro e w2 ⟨rfl, hb⟩
        have HB2 := Lib.hid (HB1.out.trans (hb.mono HB1.out.size))
        have HE2 := Lib.hid (HE1.out.below hb (Nat.le_refl _))
        have HG2 := Lib.hid (HG1.out.next hb)
        clear hb
        go_wp2_with fail
        go_at_call 10
        refine (unpack_lit FT.out _ HE2.out).mono ?_
        rintro e w3 ⟨rfl, hb⟩
        have HB3 := Lib.hid ((HB2.out.trans (hb.mono HB2.out.size)).alloc (Nat.le_trans HB2.out.size hb.size) (.cells (gtc v k m) 23))
        have HE3 := Lib.hid ((HE2.out.below hb (Nat.le_refl _)).alloc (.cells (gtc v k m) 23))
        have HG3 := Lib.hid ((HG2.out.next hb).alloc (.cells (gtc v k m) 23))
        have HT3 := Lib.hid (Blk.box w3 (gtc v k m) 23)
        obtain ⟨x0, x1, x2⟩ := gt_cells HG3.out
        obtain ⟨y0, y1, y2⟩ := gt_cells HT3.out
        clear hb
        go_wp2_with fail
        go_at_call 12
        refine (enter_any H.out EY.out _ HE3.out).mono ?_
        rintro e w4 ⟨rfl, hb⟩
        have HB4 := Lib.hid (HB3.out.trans (hb.mono HB3.out.size))
        have HE4 := Lib.hid (HE3.out.below hb (Nat.le_refl _))
        have HG4 := Lib.hid (HG3.out.next hb)
        clear hb x0 x1 x2 y0 y1 y2
        go_wp2_with fail
        go_at_call 10
        refine (unpack_lit FE.out _ HE4.out).mono ?_
        rintro e w5 ⟨rfl, hb⟩
        have HB5 := Lib.hid ((HB4.out.trans (hb.mono HB4.out.size)).alloc (Nat.le_trans HB4.out.size hb.size) (.cells (gtc v (k + 1) c) 23))
        have HE5 := Lib.hid ((HE4.out.below hb (Nat.le_refl _)).alloc (.cells (gtc v (k + 1) c) 23))
        have HG5 := Lib.hid ((HG4.out.next hb).alloc (.cells (gtc v (k + 1) c) 23))
        have HH5 := Lib.hid (Blk.box w5 (gtc v (k + 1) c) 23)
        clear hb
        go_wp2_with fail
        go_at_call 14
        refine (leave_any FE.out LY.out _ HE5.out).mono ?_
        rintro e w6 ⟨rfl, hb⟩
        have HB6 := Lib.hid (HB5.out.trans (hb.mono HB5.out.size))
        have HE6 := Lib.hid (HE5.out.below hb (Nat.le_refl _))
        have HG6 := Lib.hid (HG5.out.next hb)
        have HH6 := Lib.hid (HH5.out.next hb)
        obtain ⟨x0, x1, x2⟩ := gt_cells HG6.out
        obtain ⟨y0, y1, y2⟩ := gt_cells HH6.out
        clear hb
        go_wp2_with fail
        go_at_call 16
        refine (swap_any H.out SY.out _ HE6.out).mono ?_
        rintro e w7 ⟨rfl, hb⟩
        have HB7 := Lib.hid (HB6.out.trans (hb.mono HB6.out.size))
        have HE7 := Lib.hid (HE6.out.below hb (Nat.le_refl _))
        have HG7 := Lib.hid (HG6.out.next hb)
        clear hb
        go_wp2_with fail
        go_at_call 10
        refine (unpack_lit FS.out _ HE7.out).mono ?_
        rintro e w8 ⟨rfl, hb⟩
        have HB8 := Lib.hid ((HB7.out.trans (hb.mono HB7.out.size)).alloc (Nat.le_trans HB7.out.size hb.size) (.cells (gtc v k c) 23))
        have HE8 := Lib.hid ((HE7.out.below hb (Nat.le_refl _)).alloc (.cells (gtc v k c) 23))
        have HG8 := Lib.hid ((HG7.out.next hb).alloc (.cells (gtc v k c) 23))
        have HS8 := Lib.hid (Blk.box w8 (gtc v k c) 23)
        clear hb
        go_wp2_with fail
        go_at_call 9
        refine (awake_any _ HE8.out).mono ?_
        rintro e w9 ⟨rfl, hb⟩
        have HB9 := Lib.hid (HB8.out.trans (hb.mono HB8.out.size))
        have HG9 := Lib.hid (HG8.out.next hb)
        have HS9 := Lib.hid (HS8.out.next hb)
        obtain ⟨x0, x1, x2⟩ := gt_cells HG9.out
        obtain ⟨y0, y1, y2⟩ := gt_cells HS9.out
        clear hb
        go_wp2_with fail
        go_ret
        exact ⟨rfl, HB9.out⟩
  · have SY : Hid (SW v true (v + 1)) := .inl ⟨rfl, rfl, hs⟩
    have FS := Lib.hid (SW_fit H.out SY.out)
    have hz := IntWalk.wrap64_in (v + 1) (by have := H.out.v0; have := H.out.v1; omega)
    clear hs
    by_cases hx : l ≤ k
    · have EY : Hid (EN k l false k) := .inr ⟨rfl, rfl, .inl hx⟩
      clear hx
      go_enter Tryd.func6, Tryd.ntmps6
      go_wp2_with fail
      go_at_call 10
      refine (unpack_lit H.out _ HE0.out).mono ?_
      rintro e w1 ⟨rfl, hb⟩
      have HB1 := Lib.hid ((HB0.out.trans hb).alloc hb.size (.cells (gtc v k c) 23))
      have HE1 := Lib.hid ((HE0.out.below hb (Nat.le_refl _)).alloc (.cells (gtc v k c) 23))
      have HG1 := Lib.hid (Blk.box w1 (gtc v k c) 23)
      clear hb
      go_wp2_with fail
      go_at_call 18
      refine (quiet_below (HT.out _ HE1.out)).mono ?_
      rintro e w2 ⟨rfl, hb⟩
      have HB2 := Lib.hid (HB1.out.trans (hb.mono HB1.out.size))
      have HE2 := Lib.hid (HE1.out.below hb (Nat.le_refl _))
      have HG2 := Lib.hid (HG1.out.next hb)
      clear hb
      go_wp2_with fail
      go_at_call 10
      refine (unpack_lit FT.out _ HE2.out).mono ?_
      rintro e w3 ⟨rfl, hb⟩
      have HB3 := Lib.hid ((HB2.out.trans (hb.mono HB2.out.size)).alloc (Nat.le_trans HB2.out.size hb.size) (.cells (gtc v k m) 23))
      have HE3 := Lib.hid ((HE2.out.below hb (Nat.le_refl _)).alloc (.cells (gtc v k m) 23))
      have HG3 := Lib.hid ((HG2.out.next hb).alloc (.cells (gtc v k m) 23))
      have HT3 := Lib.hid (Blk.box w3 (gtc v k m) 23)
      obtain ⟨x0, x1, x2⟩ := gt_cells HG3.out
      obtain ⟨y0, y1, y2⟩ := gt_cells HT3.out
      clear hb
      go_wp2_with fail
      go_at_call 12
      refine (enter_any H.out EY.out _ HE3.out).mono ?_
      rintro e w6 ⟨rfl, hb⟩
      have HB6 := Lib.hid (HB3.out.trans (hb.mono HB3.out.size))
      have HE6 := Lib.hid (HE3.out.below hb (Nat.le_refl _))
      have HG6 := Lib.hid (HG3.out.next hb)
      clear hb x0 x1 x2 y0 y1 y2
      go_wp2_with fail
      go_at_call 16
      refine (swap_any H.out SY.out _ HE6.out).mono ?_
      rintro e w7 ⟨rfl, hb⟩
      have HB7 := Lib.hid (HB6.out.trans (hb.mono HB6.out.size))
      have HE7 := Lib.hid (HE6.out.below hb (Nat.le_refl _))
      have HG7 := Lib.hid (HG6.out.next hb)
      clear hb
      go_wp2_with fail
      go_at_call 10
      refine (unpack_lit FS.out _ HE7.out).mono ?_
      rintro e w8 ⟨rfl, hb⟩
      have HB8 := Lib.hid ((HB7.out.trans (hb.mono HB7.out.size)).alloc (Nat.le_trans HB7.out.size hb.size) (.cells (gtc (v + 1) k c) 23))
      have HE8 := Lib.hid ((HE7.out.below hb (Nat.le_refl _)).alloc (.cells (gtc (v + 1) k c) 23))
      have HG8 := Lib.hid ((HG7.out.next hb).alloc (.cells (gtc (v + 1) k c) 23))
      have HS8 := Lib.hid (Blk.box w8 (gtc (v + 1) k c) 23)
      clear hb
      go_wp2_with fail
      go_at_call 9
      refine (awake_any _ HE8.out).mono ?_
      rintro e w9 ⟨rfl, hb⟩
      have HB9 := Lib.hid (HB8.out.trans (hb.mono HB8.out.size))
      have HG9 := Lib.hid (HG8.out.next hb)
      have HS9 := Lib.hid (HS8.out.next hb)
      obtain ⟨x0, x1, x2⟩ := gt_cells HG9.out
      obtain ⟨y0, y1, y2⟩ := gt_cells HS9.out
      clear hb
      go_wp2_with fail
      go_ret
      exact ⟨rfl, HB9.out⟩
    · by_cases hk : k = 4095
      · have EY : Hid (EN k l false k) := .inr ⟨rfl, rfl, .inr hk⟩
        clear hk hx
        go_enter Tryd.func6, Tryd.ntmps6
        go_wp2_with fail
        go_at_call 10
        refine (unpack_lit H.out _ HE0.out).mono ?_
        rintro e w1 ⟨rfl, hb⟩
        have HB1 := Lib.hid ((HB0.out.trans hb).alloc hb.size (.cells (gtc v k c) 23))
        have HE1 := Lib.hid ((HE0.out.below hb (Nat.le_refl _)).alloc (.cells (gtc v k c) 23))
        have HG1 := Lib.hid (Blk.box w1 (gtc v k c) 23)
        clear hb
        go_wp2_with fail
        go_at_call 18
        refine (quiet_below (HT.out _ HE1.out)).mono ?_
        rintro e w2 ⟨rfl, hb⟩
        have HB2 := Lib.hid (HB1.out.trans (hb.mono HB1.out.size))
        have HE2 := Lib.hid (HE1.out.below hb (Nat.le_refl _))
        have HG2 := Lib.hid (HG1.out.next hb)
        clear hb
        go_wp2_with fail
        go_at_call 10
        refine (unpack_lit FT.out _ HE2.out).mono ?_
        rintro e w3 ⟨rfl, hb⟩
        have HB3 := Lib.hid ((HB2.out.trans (hb.mono HB2.out.size)).alloc (Nat.le_trans HB2.out.size hb.size) (.cells (gtc v k m) 23))
        have HE3 := Lib.hid ((HE2.out.below hb (Nat.le_refl _)).alloc (.cells (gtc v k m) 23))
        have HG3 := Lib.hid ((HG2.out.next hb).alloc (.cells (gtc v k m) 23))
        have HT3 := Lib.hid (Blk.box w3 (gtc v k m) 23)
        obtain ⟨x0, x1, x2⟩ := gt_cells HG3.out
        obtain ⟨y0, y1, y2⟩ := gt_cells HT3.out
        clear hb
        go_wp2_with fail
        go_at_call 12
        refine (enter_any H.out EY.out _ HE3.out).mono ?_
        rintro e w6 ⟨rfl, hb⟩
        have HB6 := Lib.hid (HB3.out.trans (hb.mono HB3.out.size))
        have HE6 := Lib.hid (HE3.out.below hb (Nat.le_refl _))
        have HG6 := Lib.hid (HG3.out.next hb)
        clear hb x0 x1 x2 y0 y1 y2
        go_wp2_with fail
        go_at_call 16
        refine (swap_any H.out SY.out _ HE6.out).mono ?_
        rintro e w7 ⟨rfl, hb⟩
        have HB7 := Lib.hid (HB6.out.trans (hb.mono HB6.out.size))
        have HE7 := Lib.hid (HE6.out.below hb (Nat.le_refl _))
        have HG7 := Lib.hid (HG6.out.next hb)
        clear hb
        go_wp2_with fail
        go_at_call 10
        refine (unpack_lit FS.out _ HE7.out).mono ?_
        rintro e w8 ⟨rfl, hb⟩
        have HB8 := Lib.hid ((HB7.out.trans (hb.mono HB7.out.size)).alloc (Nat.le_trans HB7.out.size hb.size) (.cells (gtc (v + 1) k c) 23))
        have HE8 := Lib.hid ((HE7.out.below hb (Nat.le_refl _)).alloc (.cells (gtc (v + 1) k c) 23))
        have HG8 := Lib.hid ((HG7.out.next hb).alloc (.cells (gtc (v + 1) k c) 23))
        have HS8 := Lib.hid (Blk.box w8 (gtc (v + 1) k c) 23)
        clear hb
        go_wp2_with fail
        go_at_call 9
        refine (awake_any _ HE8.out).mono ?_
        rintro e w9 ⟨rfl, hb⟩
        have HB9 := Lib.hid (HB8.out.trans (hb.mono HB8.out.size))
        have HG9 := Lib.hid (HG8.out.next hb)
        have HS9 := Lib.hid (HS8.out.next hb)
        obtain ⟨x0, x1, x2⟩ := gt_cells HG9.out
        obtain ⟨y0, y1, y2⟩ := gt_cells HS9.out
        clear hb
        go_wp2_with fail
        go_ret
        exact ⟨rfl, HB9.out⟩
      · have EY : Hid (EN k l true (k + 1)) := .inl ⟨rfl, rfl, hx, hk⟩
        have FE := Lib.hid (EN_fit H.out EY.out)
        have LY : Hid (LV (k + 1) true k) := .inl ⟨rfl, by omega, by have := H.out.k0; omega⟩
        have hy := IntWalk.wrap64_in (k + 1) (by have := H.out.k0; have := H.out.k1; omega)
        have d1 : decide (k + 1 > l) = false := by simp; omega
        clear hx hk
        go_enter Tryd.func6, Tryd.ntmps6
        go_wp2_with fail
        go_at_call 10
        refine (unpack_lit H.out _ HE0.out).mono ?_
        rintro e w1 ⟨rfl, hb⟩
        have HB1 := Lib.hid ((HB0.out.trans hb).alloc hb.size (.cells (gtc v k c) 23))
        have HE1 := Lib.hid ((HE0.out.below hb (Nat.le_refl _)).alloc (.cells (gtc v k c) 23))
        have HG1 := Lib.hid (Blk.box w1 (gtc v k c) 23)
        clear hb
        go_wp2_with fail
        go_at_call 18
        refine (quiet_below (HT.out _ HE1.out)).mono ?_
        rintro e w2 ⟨rfl, hb⟩
        have HB2 := Lib.hid (HB1.out.trans (hb.mono HB1.out.size))
        have HE2 := Lib.hid (HE1.out.below hb (Nat.le_refl _))
        have HG2 := Lib.hid (HG1.out.next hb)
        clear hb
        go_wp2_with fail
        go_at_call 10
        refine (unpack_lit FT.out _ HE2.out).mono ?_
        rintro e w3 ⟨rfl, hb⟩
        have HB3 := Lib.hid ((HB2.out.trans (hb.mono HB2.out.size)).alloc (Nat.le_trans HB2.out.size hb.size) (.cells (gtc v k m) 23))
        have HE3 := Lib.hid ((HE2.out.below hb (Nat.le_refl _)).alloc (.cells (gtc v k m) 23))
        have HG3 := Lib.hid ((HG2.out.next hb).alloc (.cells (gtc v k m) 23))
        have HT3 := Lib.hid (Blk.box w3 (gtc v k m) 23)
        obtain ⟨x0, x1, x2⟩ := gt_cells HG3.out
        obtain ⟨y0, y1, y2⟩ := gt_cells HT3.out
        clear hb
        go_wp2_with fail
        go_at_call 12
        refine (enter_any H.out EY.out _ HE3.out).mono ?_
        rintro e w4 ⟨rfl, hb⟩
        have HB4 := Lib.hid (HB3.out.trans (hb.mono HB3.out.size))
        have HE4 := Lib.hid (HE3.out.below hb (Nat.le_refl _))
        have HG4 := Lib.hid (HG3.out.next hb)
        clear hb x0 x1 x2 y0 y1 y2
        go_wp2_with fail
        go_at_call 10
        refine (unpack_lit FE.out _ HE4.out).mono ?_
        rintro e w5 ⟨rfl, hb⟩
        have HB5 := Lib.hid ((HB4.out.trans (hb.mono HB4.out.size)).alloc (Nat.le_trans HB4.out.size hb.size) (.cells (gtc v (k + 1) c) 23))
        have HE5 := Lib.hid ((HE4.out.below hb (Nat.le_refl _)).alloc (.cells (gtc v (k + 1) c) 23))
        have HG5 := Lib.hid ((HG4.out.next hb).alloc (.cells (gtc v (k + 1) c) 23))
        have HH5 := Lib.hid (Blk.box w5 (gtc v (k + 1) c) 23)
        clear hb
        go_wp2_with fail
        go_at_call 14
        refine (leave_any FE.out LY.out _ HE5.out).mono ?_
        rintro e w6 ⟨rfl, hb⟩
        have HB6 := Lib.hid (HB5.out.trans (hb.mono HB5.out.size))
        have HE6 := Lib.hid (HE5.out.below hb (Nat.le_refl _))
        have HG6 := Lib.hid (HG5.out.next hb)
        have HH6 := Lib.hid (HH5.out.next hb)
        obtain ⟨x0, x1, x2⟩ := gt_cells HG6.out
        obtain ⟨y0, y1, y2⟩ := gt_cells HH6.out
        clear hb
        go_wp2_with fail
        go_at_call 16
        refine (swap_any H.out SY.out _ HE6.out).mono ?_
        rintro e w7 ⟨rfl, hb⟩
        have HB7 := Lib.hid (HB6.out.trans (hb.mono HB6.out.size))
        have HE7 := Lib.hid (HE6.out.below hb (Nat.le_refl _))
        have HG7 := Lib.hid (HG6.out.next hb)
        clear hb
        go_wp2_with fail
        go_at_call 10
        refine (unpack_lit FS.out _ HE7.out).mono ?_
        rintro e w8 ⟨rfl, hb⟩
        have HB8 := Lib.hid ((HB7.out.trans (hb.mono HB7.out.size)).alloc (Nat.le_trans HB7.out.size hb.size) (.cells (gtc (v + 1) k c) 23))
        have HE8 := Lib.hid ((HE7.out.below hb (Nat.le_refl _)).alloc (.cells (gtc (v + 1) k c) 23))
        have HG8 := Lib.hid ((HG7.out.next hb).alloc (.cells (gtc (v + 1) k c) 23))
        have HS8 := Lib.hid (Blk.box w8 (gtc (v + 1) k c) 23)
        clear hb
        go_wp2_with fail
        go_at_call 9
        refine (awake_any _ HE8.out).mono ?_
        rintro e w9 ⟨rfl, hb⟩
        have HB9 := Lib.hid (HB8.out.trans (hb.mono HB8.out.size))
        have HG9 := Lib.hid (HG8.out.next hb)
        have HS9 := Lib.hid (HS8.out.next hb)
        obtain ⟨x0, x1, x2⟩ := gt_cells HG9.out
        obtain ⟨y0, y1, y2⟩ := gt_cells HS9.out
        clear hb
        go_wp2_with fail
        go_ret
        exact ⟨rfl, HB9.out⟩
end Ga
end Go.Proofs.YtgddocpndogigaaDoor
