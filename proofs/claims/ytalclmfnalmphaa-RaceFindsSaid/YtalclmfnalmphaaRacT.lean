/- Layer 24: the walk of RaceFinds. -/
import Derived.Test.YtalclmfnalmphaaRacL
import Derived.Test.YtalclmfnalmphaaRacS
set_option linter.unusedVariables false
set_option linter.unusedSimpArgs false
set_option maxRecDepth 100000
namespace Go.Proofs.Ytalclmfnalmphaa
open Go.ChangeShapes Go.WideShapes Go.ChangeAt Go.RowKit Go.Mtl Go.Lib
namespace Rc
open RcM
set_option maxHeartbeats 4000000 in
theorem raceFinds_walk (A0 : Option Addr) (len cap : Nat) (rs : List (List Int)) (a b : Int) (W : World) (hd : rs.length = len ∧ Sts W W.heap.size ak (.slice A0 len cap) rs ∧ ∀ r ∈ rs, Fits ak r) (ha : -9223372036854775808 ≤ a ∧ a ≤ 9223372036854775807) (hb : -9223372036854775808 ≤ b ∧ b ≤ 9223372036854775807) :
    Calls Try.prog 3 #[.slice A0 len cap, .int .i64 a, .int .i64 b] W fun e w' => e = .returned (.bool true) ∧ Below W.heap.size W w' := by
  obtain ⟨l0, hl0, hr0, hcl, -⟩ := lg_of hd
  obtain ⟨l, hlq⟩ : ∃ l, l0.take 60 = l := ⟨_, rfl⟩
  obtain ⟨n, hnq⟩ : ∃ n, min len 60 = n := ⟨_, rfl⟩
  have hr : Rd W W.heap.size 3 n (.slice A0 n cap) (avs l) := by rw [← hnq, ← hlq]; exact Lg.cut hr0 hl0
  have hl : l.length = n := by rw [← hlq, List.length_take, hl0]; omega
  have hn60 : n ≤ 60 := by omega
  obtain ⟨h1, h2⟩ := hcl
  have HSH := Lib.hid (short_any A0 len cap h1 h2 W)
  rw [hnq] at HSH
  have HR := Lib.hid hr
  have HL := Lib.hid hl
  have LG : ∀ w', Below W.heap.size W w' → Lg w' w'.heap.size (.slice A0 n cap) l := fun w' hb => by
    show Rd _ _ _ l.length _ _
    rw [HL.out]
    exact (HR.out.below hb).more hb.size
  have HLG := Lib.hid LG
  have H60 : Hid (l.length ≤ 60) := by show _ ≤ _; omega
  clear hd hr0 hr hl hl0 hlq hnq h1 LG
  go_in
  go_wp2_with fail
  refine HSH.out.mono ?_
  rintro e w1 ⟨rfl, hb1⟩
  have HB1 := Lib.hid hb1
  clear hb1 HSH
  go_wp2_with fail
  go_at_call 7
  refine (find_any _ l w1 (HLG.out w1 HB1.out)).mono ?_
  rintro e w2 ⟨x, d, rfl, ht, hb2⟩
  have HT := Lib.hid ht
  have HB2 := Lib.hid (HB1.out.trans (hb2.mono HB1.out.size))
  clear ht hb2
  go_wp2_with fail
  go_at_call 8
  refine (refFind_any _ l w2 (HLG.out w2 HB2.out) H60.out).mono ?_
  rintro e w3 ⟨x', d', rfl, ht, hb3⟩
  obtain ⟨rfl, rfl⟩ := HT.out.one ht
  have HB3 := Lib.hid (HB2.out.trans (hb3.mono HB2.out.size))
  clear ht hb3
  go_wp2_with fail
  go_at_call 9
  refine (awake_any w3).mono ?_
  rintro e w4 ⟨rfl, hb4⟩
  have HB4 := Lib.hid (HB3.out.trans (hb4.mono HB3.out.size))
  clear hb4
  go_wp2_with fail
  go_at_call 10
  refine (before_any _ l w4 (HLG.out w4 HB4.out) a b).mono ?_
  rintro e w5 ⟨rfl, hb5⟩
  have HB5 := Lib.hid (HB4.out.trans (hb5.mono HB4.out.size))
  clear hb5
  go_wp2_with fail
  go_at_call 11
  refine (refBefore_any _ l w5 (HLG.out w5 HB5.out) H60.out a b).mono ?_
  rintro e w6 ⟨rfl, hb6⟩
  have HB6 := Lib.hid (HB5.out.trans (hb6.mono HB5.out.size))
  clear hb6
  go_wp2_with fail
  go_ret
  exact ⟨by simp, HB6.out⟩
end Rc
end Go.Proofs.Ytalclmfnalmphaa
