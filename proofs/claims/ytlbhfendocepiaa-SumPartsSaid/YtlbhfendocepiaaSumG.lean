/- The walk of SumParts. -/
import Derived.Test.YtlbhfendocepiaaSumF
import Derived.IntWalk
import Derived.Deep.QuietTactic
set_option linter.unusedVariables false
namespace Go.Proofs.Ytlbhfendocepiaa
open Go.ChangeShapes Go.WideShapes Go.ChangeAt Go.RowKit Go.Mtl
namespace Sm
open SumM (norm add upto norm_big norm_small add_le upto_zero upto_le upto_step upto_word upto_last upto_done norm_le lay lay_len turn turn_len zero_full turn_not two_pow_lt8 edit_fits add_parts add_swap)

theorem addI_any (s : Nat) (A : Option Addr) (n c : Nat) (bs : List UInt8) (r : Nat) (hr : add s bs = r) (W : World) (B : Nat) (hb : Bts W B A n bs) (hs : s ≤ 65535) (hc : n ≤ c) (hm : c ≤ 9223372036854775807) :
    Calls Try.prog 9 #[.int .u16 (s : Int), .slice A n c] W fun e w' => e = .returned (.int .u16 (r : Int)) ∧ W = w' := by
  subst hr; exact add_any s A n c bs W B hb hs hc hm
theorem add0I_any (A : Option Addr) (n c : Nat) (bs : List UInt8) (r : Nat) (hr : add 0 bs = r) (W : World) (B : Nat) (hb : Bts W B A n bs) (hc : n ≤ c) (hm : c ≤ 9223372036854775807) :
    Calls Try.prog 9 #[.int .u16 0, .slice A n c] W fun e w' => e = .returned (.int .u16 (r : Int)) ∧ W = w' := by
  subst hr; exact add_any 0 A n c bs W B hb (by omega) hc hm

set_option maxHeartbeats 2000000 in
theorem sumParts_main (a0 a1 : Option Addr) (n0 c0 n1 c1 : Nat) (m n x y : Nat) (bx by_ yt : List UInt8) (w : World) (hm : m ≤ 3000) (hn : n ≤ 3000) (hmc : m ≤ c0) (hnc : n ≤ c1) (hc0 : c0 ≤ 9223372036854775807) (hc1 : c1 ≤ 9223372036854775807)
    (hx2 : x % 2 = 0) (hy2 : y % 2 = 0) (hx : x = m ∨ m = x + 1) (hy : y = n ∨ n = y + 1)
    (hsh0 : ∀ W, Calls Try.prog 10 #[.slice a0 n0 c0] W fun e w' => e = .returned (.slice a0 m c0) ∧ W = w')
    (hsh1 : ∀ W, Calls Try.prog 10 #[.slice a1 n1 c1] W fun e w' => e = .returned (.slice a1 n c1) ∧ W = w')
    (hbx : Bts w w.heap.size a0 x bx) (hby : Bts w w.heap.size a1 n by_) (hyt : Bts w w.heap.size a1 y yt) :
    Calls Try.prog 7 #[.slice a0 n0 c0, .slice a1 n1 c1] w fun e w' => e = .returned (.bool true) ∧ Below w.heap.size w w' := by
  obtain ⟨i0, hi0, hz0, hz1, hz2⟩ := info_parts u8_info
  have H0 := Lib.hid hsh0
  have H1 := Lib.hid hsh1
  have HX := Lib.hid hbx
  have HY := Lib.hid hby
  have HT := Lib.hid hyt
  obtain ⟨P, hP⟩ : ∃ P, add 0 bx = P := ⟨_, rfl⟩
  obtain ⟨Q, hQ⟩ : ∃ Q, add P by_ = Q := ⟨_, rfl⟩
  obtain ⟨R, hR⟩ : ∃ R, add 0 yt = R := ⟨_, rfl⟩
  obtain ⟨S, hS⟩ : ∃ S, add R bx = S := ⟨_, rfl⟩
  have hQ' : add 0 (bx ++ by_) = Q := by rw [← add_parts _ _ (by rw [hbx.len]; exact hx2), hP, hQ]
  have hS' : add P yt = S := by rw [← hP, ← add_swap, hR, hS]
  have hPl : P ≤ 65535 := by rw [← hP]; exact add_le _ _
  have hRl : R ≤ 65535 := by rw [← hR]; exact add_le _ _
  have KP := Lib.hid hP
  have KQ := Lib.hid hQ
  have KR := Lib.hid hR
  have KS := Lib.hid hS
  have KQ' := Lib.hid hQ'
  have KS' := Lib.hid hS'
  have hx0 : (x : Int) % 2 = 0 := by omega
  have hx1 : ((x : Int) + 1) % 2 = 1 := by omega
  have hy0 : (y : Int) % 2 = 0 := by omega
  have hy1 : ((y : Int) + 1) % 2 = 1 := by omega
  clear hsh0 hsh1 hbx hby hyt hP hQ hR hS hQ' hS' hx2 hy2
  rcases hx with rfl | rfl <;> rcases hy with rfl | rfl
  all_goals
    go_enter Try.func7, Try.ntmps7
    go_wp2_with fail
    go_at_call 10
    refine (H0.out _).mono ?_
    rintro e w' ⟨rfl, rfl⟩
    go_wp2_with fail
    go_at_call 10
    refine (H1.out _).mono ?_
    rintro e w' ⟨rfl, rfl⟩
    go_wp2_with (first
      | (at_builtin; refine wpList_append_new rfl (.tmp 21) (.tmp 22) _ rfl 5 i0 Try.underlying23 hi0 hz0 hz1 hz2 rfl _ a0 x c0 bx rfl HX.out (Nat.le_refl _) (by omega) ?_
         intro A1 d1 w1 hown1 hbel1 hcc1
         have HO1 := Lib.hid hown1
         clear hown1)
      | (at_builtin; refine wpList_append_bts rfl (.tmp 23) (.tmp 24) _ rfl w.heap.size 5 i0 Try.underlying23 hi0 hz0 hz1 hz2 (.slice A1 x d1) x bx rfl HO1.out w.heap.size a1 _ c1 by_ rfl (HY.out.below hbel1) (by omega) hbel1.size ?_
         intro A2 d2 w2 hown2 hgr2 hcc2
         have hbel2 : Below w.heap.size w w2 := hbel1.grown hgr2 hbel1.size fun k hk => (HO1.out.lt k hk).1
         have HO2 := Lib.hid (bts_of_own hown2 rfl)
         have HX2 := Lib.hid (HX.out.below hbel2)
         have HY2 := Lib.hid (HY.out.below hbel2)
         clear hown2 hgr2 HO1))
    go_at_call 9
    refine (add0I_any a0 x c0 bx P KP.out _ _ HX2.out (by omega) (by omega)).mono ?_
    rintro e w' ⟨rfl, rfl⟩
    go_wp2_with fail
    go_at_call 9
    refine (addI_any P a1 _ c1 by_ Q KQ.out _ _ HY2.out hPl (by omega) (by omega)).mono ?_
    rintro e w' ⟨rfl, rfl⟩
    go_wp2_with fail
    go_at_call 9
    refine (add0I_any A2 _ d2 _ Q KQ'.out _ _ HO2.out (by omega) (by omega)).mono ?_
    rintro e w' ⟨rfl, rfl⟩
    go_wp2_with fail
    go_at_call 8
    refine (awake_any _).mono ?_
    rintro e w5 ⟨rfl, hba⟩
    have hbel5 := hbel2.trans (hba.mono hbel2.size)
    have HX5 := Lib.hid (HX.out.below hbel5)
    have HT5 := Lib.hid (HT.out.below hbel5)
    go_wp2_with fail
    go_at_call 9
    refine (add0I_any a1 y c1 yt R KR.out _ _ HT5.out (by omega) (by omega)).mono ?_
    rintro e w' ⟨rfl, rfl⟩
    go_wp2_with fail
    go_at_call 9
    refine (addI_any R a0 x c0 bx S KS.out _ _ HX5.out hRl (by omega) (by omega)).mono ?_
    rintro e w' ⟨rfl, rfl⟩
    go_wp2_with fail
    go_at_call 9
    refine (add0I_any a0 x c0 bx P KP.out _ _ HX5.out (by omega) (by omega)).mono ?_
    rintro e w' ⟨rfl, rfl⟩
    go_wp2_with fail
    go_at_call 9
    refine (addI_any P a1 y c1 yt S KS'.out _ _ HT5.out hPl (by omega) (by omega)).mono ?_
    rintro e w' ⟨rfl, rfl⟩
    go_wp2_with fail
    go_ret
    exact ⟨rfl, hbel5⟩

theorem sumParts_walk (a0 : Option Addr) (n0 c0 : Nat) (b0 : List UInt8) (a1 : Option Addr) (n1 c1 : Nat) (b1 : List UInt8) (w : World) (w0 : Bts w w.heap.size a0 n0 b0) (hc0 : n0 ≤ c0) (hm0 : c0 ≤ maxLen) (w1 : Bts w w.heap.size a1 n1 b1) (hc1 : n1 ≤ c1) (hm1 : c1 ≤ maxLen) :
    Calls Try.prog 7 #[.slice a0 n0 c0, .slice a1 n1 c1] w fun e w' => e = .returned (.bool true) ∧ Below w.heap.size w w' := by
  unfold maxLen at hm0 hm1
  have hb0 := w0.take 3000
  have hb1 := w1.take 3000
  have C0 := fun W => short_any a0 n0 c0 hc0 (by omega) W
  have C1 := fun W => short_any a1 n1 c1 hc1 (by omega) W
  exact sumParts_main a0 a1 n0 c0 n1 c1 (min n0 3000) (min n1 3000) (min n0 3000 - min n0 3000 % 2) (min n1 3000 - min n1 3000 % 2) _ _ _ w (by omega) (by omega) (by omega) (by omega) (by omega) (by omega)
    (by omega) (by omega) (by omega) (by omega) C0 C1 (hb0.front _ (by omega)) hb1 (hb1.front _ (by omega))

end Sm
end Go.Proofs.Ytlbhfendocepiaa
