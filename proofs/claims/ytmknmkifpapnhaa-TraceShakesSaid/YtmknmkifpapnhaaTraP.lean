/- Layer 16: awake, and the walk of TraceMoves. -/
import Derived.Test.YtmknmkifpapnhaaTraD
set_option linter.unusedVariables false
set_option linter.unusedSimpArgs false
namespace Go.Proofs.Ytmknmkifpapnhaa
open Go.ChangeShapes Go.WideShapes Go.ChangeAt Go.RowKit Go.Mtl Go.Lib
namespace Tr
open TraM (Step find kindN stN stB nextN nextB openN openB bitB refN refB nxN nxB)

theorem next_lit (s : Int) (r : Bool) (f : Nat) (n : Int) (b : Bool) (h : decide (-9223372036854775808 ≤ s ∧ s ≤ 9223372036854775807 ∧ f < 256 ∧ nextN s r f = n ∧ nextB s r f = b) = true) (W : World) :
    Calls Try.prog 8 #[.int .i64 s, .bool r, .int .u8 (f : Int)] W fun e w' => e = .returned (.tuple #[.int .i64 n, .bool b]) ∧ Below W.heap.size W w' := by
  obtain ⟨h1, h2, h3, rfl, rfl⟩ := of_decide_eq_true h
  exact next_any s r f ⟨h1, h2⟩ h3 W
theorem open_aw (W : World) : Calls Try.prog 6 #[.int .u8 2] W fun e w' => e = .returned (.tuple #[.int .i64 1, .bool true]) ∧ w' = W := open_any 2 (by omega) W
theorem next_aw1 (W : World) : Calls Try.prog 8 #[.int .i64 1, .bool true, .int .u8 18] W fun e w' => e = .returned (.tuple #[.int .i64 2, .bool true]) ∧ Below W.heap.size W w' := next_lit 1 true 18 2 true (by decide +kernel) W
theorem next_aw2 (W : World) : Calls Try.prog 8 #[.int .i64 2, .bool false, .int .u8 24] W fun e w' => e = .returned (.tuple #[.int .i64 3, .bool true]) ∧ Below W.heap.size W w' := next_lit 2 false 24 3 true (by decide +kernel) W
theorem next_aw3 (W : World) : Calls Try.prog 8 #[.int .i64 3, .bool true, .int .u8 17] W fun e w' => e = .returned (.tuple #[.int .i64 5, .bool true]) ∧ Below W.heap.size W w' := next_lit 3 true 17 5 true (by decide +kernel) W
theorem next_aw4 (W : World) : Calls Try.prog 8 #[.int .i64 5, .bool false, .int .u8 17] W fun e w' => e = .returned (.tuple #[.int .i64 6, .bool true]) ∧ Below W.heap.size W w' := next_lit 5 false 17 6 true (by decide +kernel) W
theorem next_aw5 (W : World) : Calls Try.prog 8 #[.int .i64 1, .bool false, .int .u8 16] W fun e w' => e = .returned (.tuple #[.int .i64 0, .bool false]) ∧ Below W.heap.size W w' := next_lit 1 false 16 0 false (by decide +kernel) W

set_option maxHeartbeats 2000000 in
theorem awake_any (W : World) : Calls Try.prog 10 #[] W fun e w' => e = .returned (.bool true) ∧ Below W.heap.size W w' := by
  have HB0 := Lib.hid (Below.refl W.heap.size W)
  go_enter Try.func10, Try.ntmps10
  go_wp2_with fail
  go_at_call 6
  refine (open_aw _).mono ?_
  rintro e w0 ⟨rfl, rfl⟩
  go_wp2_with fail
  go_at_call 8
  refine (next_aw1 _).mono ?_
  rintro e w1 ⟨rfl, hb⟩
  have HB1 := Lib.hid (HB0.out.trans (hb.mono HB0.out.size))
  clear hb
  go_wp2_with fail
  go_at_call 8
  refine (next_aw2 _).mono ?_
  rintro e w2 ⟨rfl, hb⟩
  have HB2 := Lib.hid (HB1.out.trans (hb.mono HB1.out.size))
  clear hb
  go_wp2_with fail
  go_at_call 8
  refine (next_aw3 _).mono ?_
  rintro e w3 ⟨rfl, hb⟩
  have HB3 := Lib.hid (HB2.out.trans (hb.mono HB2.out.size))
  clear hb
  go_wp2_with fail
  go_at_call 8
  refine (next_aw4 _).mono ?_
  rintro e w4 ⟨rfl, hb⟩
  have HB4 := Lib.hid (HB3.out.trans (hb.mono HB3.out.size))
  clear hb
  go_wp2_with fail
  go_at_call 8
  refine (next_aw5 _).mono ?_
  rintro e w5 ⟨rfl, hb⟩
  have HB5 := Lib.hid (HB4.out.trans (hb.mono HB4.out.size))
  clear hb
  go_wp2_with fail
  go_ret
  exact ⟨rfl, HB5.out⟩

theorem traceMoves_walk (a0 : Int) (a1 : Bool) (a2 : Int) (w : World) (w0 : -9223372036854775808 ≤ a0 ∧ a0 ≤ 9223372036854775807) (w2 : 0 ≤ a2 ∧ a2 ≤ 255) :
    Calls Try.prog 3 #[.int .i64 a0, .bool a1, .int .u8 a2] w fun e w' => e = .returned (.bool true) ∧ Below w.heap.size w w' := by
  obtain ⟨f, rfl⟩ : ∃ f : Nat, a2 = (f : Int) := ⟨a2.toNat, by omega⟩
  have hf : f < 256 := by omega
  have HO := Lib.hid (open_any f hf w)
  have HR := Lib.hid (refOpen_any f hf w)
  have HN := Lib.hid (next_any a0 a1 f w0 hf w)
  have HM := Lib.hid (fun W => refNext_any a0 a1 f w0 hf W)
  generalize openN f = on at HO HR
  generalize openB f = ob at HO HR
  generalize nextN a0 a1 f = nn at HN HM
  generalize nextB a0 a1 f = nb at HN HM
  go_enter Try.func3, Try.ntmps3
  go_wp2_with fail
  go_at_call 6
  refine HO.out.mono ?_
  rintro e w' ⟨rfl, rfl⟩
  go_wp2_with fail
  go_at_call 7
  refine HR.out.mono ?_
  rintro e w' ⟨rfl, rfl⟩
  go_wp2_with fail
  go_at_call 8
  refine HN.out.mono ?_
  rintro e w1 ⟨rfl, hb1⟩
  have HB1 := Lib.hid hb1
  clear hb1
  go_wp2_with fail
  go_at_call 9
  refine (HM.out _).mono ?_
  rintro e w' ⟨rfl, rfl⟩
  go_wp2_with fail
  go_at_call 10
  refine (awake_any _).mono ?_
  rintro e w2 ⟨rfl, hb2⟩
  have HB2 := Lib.hid (HB1.out.trans (hb2.mono HB1.out.size))
  clear hb2 HB1
  go_wp2_with fail
  go_ret
  exact ⟨rfl, HB2.out⟩
end Tr
end Go.Proofs.Ytmknmkifpapnhaa
