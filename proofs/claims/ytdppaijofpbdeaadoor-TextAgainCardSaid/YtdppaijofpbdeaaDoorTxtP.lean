/- Layer 11: awake, the law's fixed fact. -/
import Derived.Test.YtdppaijofpbdeaaDoorTxtD
import Derived.Test.YtdppaijofpbdeaaDoorTxtH
set_option linter.unusedVariables false
set_option linter.unusedSimpArgs false
namespace Go.Proofs.YtdppaijofpbdeaaDoor
open Go.ChangeShapes Go.WideShapes Go.ChangeAt Go.RowKit Go.Mtl Go.Shelf Go.Lib
namespace Tx
open TxtM (Line okb errOf lineOf linesOf okN valN)

abbrev t1 : ByteArray := ⟨#[97, 32, 98, 32, 35, 32, 99, 10, 10, 32, 100]⟩
abbrev t2 : ByteArray := ⟨#[97, 10, 98, 9, 99]⟩
abbrev t3 : ByteArray := ⟨#[55, 48]⟩
abbrev t4 : ByteArray := ⟨#[48, 55]⟩
theorem t1_is : linesOf t1.data.toList = [(1, [[97], [98]]), (3, [[100]])] ∧ lineOf t1.data.toList = 0 ∧ errOf t1.data.toList = 0 := by decide +kernel
theorem t2_is : lineOf t2.data.toList = 2 ∧ errOf t2.data.toList = 3 := by decide +kernel
theorem t3_is : valN t3.data.toList = 70 ∧ okN t3.data.toList = true := by decide +kernel
theorem t4_is : valN t4.data.toList = 0 ∧ okN t4.data.toList = false := by decide +kernel
def litW (w : World) : World := ((w.alloc (.cells #[.string ⟨#[97]⟩, .string ⟨#[98]⟩] 9)).alloc (.cells #[.string ⟨#[100]⟩] 9)).alloc
  (.cells #[.int .i64 1, .slice (some ⟨w.heap.size, 0, none⟩) 2 2, .int .i64 3, .slice (some ⟨w.heap.size + 1, 0, none⟩) 1 1] 35)
theorem lit_below (w : World) : Below w.heap.size w (litW w) := (((Below.refl _ _).alloc (Nat.le_refl _) _).alloc (by simp) _).alloc (by simp; omega) _
theorem lit_lines (w : World) : Lines (litW w) (.slice (some ⟨w.heap.size + 2, 0, none⟩) 2 2) [(1, [[97], [98]]), (3, [[100]])] := by
  have hz : (litW w).heap.size = w.heap.size + 3 := by simp [litW]
  have h2 : (litW w).heap[w.heap.size + 2]? = some (.cells #[.int .i64 1, .slice (some ⟨w.heap.size, 0, none⟩) 2 2, .int .i64 3, .slice (some ⟨w.heap.size + 1, 0, none⟩) 1 1] 35 (0, 0)) := by
    have := heap_alloc_new ((w.alloc (.cells #[.string ⟨#[97]⟩, .string ⟨#[98]⟩] 9)).alloc (.cells #[.string ⟨#[100]⟩] 9)) (.cells #[.int .i64 1, .slice (some ⟨w.heap.size, 0, none⟩) 2 2, .int .i64 3, .slice (some ⟨w.heap.size + 1, 0, none⟩) 1 1] 35)
    rw [World.size_alloc, World.size_alloc] at this
    exact this
  have h1 : (litW w).heap[w.heap.size + 1]? = some (.cells #[.string ⟨#[100]⟩] 9 (0, 0)) := by
    have := heap_alloc_new (w.alloc (.cells #[.string ⟨#[97]⟩, .string ⟨#[98]⟩] 9)) (.cells #[.string ⟨#[100]⟩] 9)
    rw [World.size_alloc] at this
    unfold litW
    rw [Below.heap_alloc _ _ _ (by simp)]
    exact this
  have h0 : (litW w).heap[w.heap.size]? = some (.cells #[.string ⟨#[97]⟩, .string ⟨#[98]⟩] 9 (0, 0)) := by
    have := heap_alloc_new w (.cells #[.string ⟨#[97]⟩, .string ⟨#[98]⟩] 9)
    unfold litW
    rw [Below.heap_alloc _ _ _ (by simp; omega), Below.heap_alloc _ _ _ (by simp)]
    exact this
  refine ⟨[.int .i64 1, .slice (some ⟨w.heap.size, 0, none⟩) 2 2, .int .i64 3, .slice (some ⟨w.heap.size + 1, 0, none⟩) 1 1], .inr ⟨_, 2, _, rfl, by rw [hz]; omega, h2, rfl, Nat.le_refl _, by unfold maxLen; omega⟩, rfl, ?_, rfl, ?_, trivial⟩
  · exact .inr ⟨_, 2, _, rfl, by rw [hz]; omega, h0, rfl, Nat.le_refl _, by unfold maxLen; omega⟩
  · exact .inr ⟨_, 1, _, rfl, by rw [hz]; omega, h1, rfl, Nat.le_refl _, by unfold maxLen; omega⟩

set_option maxRecDepth 100000 in
set_option maxHeartbeats 1000000 in
theorem awake_any (w : World) (he : Env w) :
    Calls Tryd.prog 8 #[] w fun e w' => e = .returned (.bool true) ∧ Below w.heap.size w w' := by
  have H1 := Lib.hid (lines_any t1 w (by unfold maxLen; decide) he)
  have HE := Lib.hid he
  clear he
  go_enter Tryd.func8, Tryd.ntmps8
  go_wp2_with fail
  go_at_call 6
  refine H1.out.mono ?_
  rintro e w1 ⟨v1, rfl, hl1, hb1⟩
  rw [t1_is.2.1, t1_is.2.2]
  rw [t1_is.1] at hl1
  have HB1 := Lib.hid hb1
  have HE1 := Lib.hid (HE.out.below hb1)
  have HL1 := Lib.hid hl1
  have H2 := Lib.hid (lines_any t2 w1 (by unfold maxLen; decide) HE1.out)
  clear hb1 hl1 H1 HE
  go_wp2_with fail
  go_at_call 6
  refine H2.out.mono ?_
  rintro e w2 ⟨v2, rfl, -, hb2⟩
  rw [t2_is.1, t2_is.2]
  have HB2 := Lib.hid (HB1.out.trans (hb2.mono HB1.out.size))
  have HL2 := Lib.hid (HL1.out.below hb2)
  clear hb2 H2 HB1 HL1 HE1
  go_wp2_with fail
  go_at_call 10
  refine (number_any t3 w2 (by unfold maxLen; decide)).mono ?_
  rintro e w' ⟨rfl, rfl⟩
  rw [t3_is.1, t3_is.2]
  go_wp2_with fail
  go_at_call 10
  refine (number_any t4 _ (by unfold maxLen; decide)).mono ?_
  rintro e w' ⟨rfl, rfl⟩
  rw [t4_is.1, t4_is.2]
  have HS := Lib.hid (same_true v1 _ _ _ (HL2.out.below (lit_below _)) (lit_lines _))
  have HLB := Lib.hid (lit_below w')
  go_wp2_with fail
  go_at_call 9
  refine HS.out.mono ?_
  rintro e w3 ⟨rfl, q, rfl⟩
  go_wp2_with fail
  go_ret
  exact ⟨rfl, HB2.out.trans ((HLB.out.trans ((below_drewN _ q).mono HLB.out.size)).mono HB2.out.size)⟩
end Tx
end Go.Proofs.YtdppaijofpbdeaaDoor
