/- Layer 12: what the listed variables and the world's shape give (Env); the types of a rule. -/
import Derived.Test.YtcockldefmmhbaaGreatDoorJ53
import Derived.Test.YtcockldefmmhbaaGreatDoorRows
import Derived.Lib.LaidTab
import Derived.MakeChecks
import Derived.LaidMore
import Derived.Stop.LaidErr
import Derived.Lay
set_option linter.unusedVariables false
namespace Go.Proofs.YtcockldefmmhbaaGreatDoor
open Go.ChangeShapes Go.WideShapes Go.ChangeAt Go.RowKit Go.Mtl Go.Shelf Go.Lib
namespace Ru
theorem tSyn : (Tryz.prog.globals[8]?).map (·.type) = some 309 := by kernel_rfl
theorem tRng : (Tryz.prog.globals[9]?).map (·.type) = some 309 := by kernel_rfl
theorem tTab : (Tryz.prog.globals[10]?).map (·.type) = some 375 := by kernel_rfl
theorem tSp : (Tryz.prog.globals[4]?).map (·.type) = some 306 := by kernel_rfl
theorem star : "*" ++ "errors.errorString" = "*errors.errorString" := by decide
theorem rowErr (u : TypeId) (h : Tryz.prog.typeName? 3 u = some "*errors.errorString") : u = 378 :=
  typeName_ptr_named (nm := "errors.errorString") (by rw [star]; kernel_rfl) (by kernel_rfl) (by decide) u (by rw [star]; exact h)
theorem sp_is : (Rows.laid_strings_asciiSpace : DataW Unit) = tabData .u8 asciiSpaceTab := by kernel_rfl
/-- The listed variables of the rows of layer 12. -/
abbrev laid12 : List (String × DataW Unit) := [("math/bits.deBruijn32tab", Rows.laid_math_bits_deBruijn32tab), ("math/bits.deBruijn64tab", Rows.laid_math_bits_deBruijn64tab), ("internal/strconv.uint64pow10", Rows.laid_internal_strconv_uint64pow10), ("unicode/utf8.acceptRanges", Rows.laid_unicode_utf8_acceptRanges), ("strconv.ErrRange", Rows.laid_strconv_ErrRange), ("strconv.ErrSyntax", Rows.laid_strconv_ErrSyntax), ("unicode.White_Space", Rows.laid_unicode_White_Space), ("strings.asciiSpace", Rows.laid_strings_asciiSpace), ("unicode/utf8.first", Rows.laid_unicode_utf8_first)]
set_option maxRecDepth 100000 in
theorem env_of {W : World} (hL : laidMetH Tryz.prog laid12 W) (hsh : W.ShapedOpen Tryz.prog) : Env W := by
  rw [MakeChecks.laidMetH_plain _ _ _ (by kernel_rfl)] at hL
  have h1 : laidMet Tryz.prog (("math/bits.deBruijn32tab", Rows.laid_math_bits_deBruijn32tab) :: _) W := hL
  have h3 := h1.tail.tail
  have h5 := h3.tail.tail
  have h6 := h5.tail
  have h8 : laidMet Tryz.prog (("strings.asciiSpace", tabData .u8 asciiSpaceTab) :: _) W := sp_is ▸ h6.tail.tail
  have hT := tabIs_of_head (zs := pow10Tab) Ad.gTab tTab Tryz.underlying375 Tryz.underlying56 (by kernel_rfl) (by kernel_rfl) h3
  obtain ⟨a0, s0, hv0, -, -, -⟩ := laid_sentinel h5 Ad.gRng tRng Tryz.underlying309 rowErr Tryz.underlying378 Tryz.underlying380 rfl rfl Tryz.underlying9 (by kernel_rfl) (by kernel_rfl)
  obtain ⟨a1, s1, hv1, -, -, -⟩ := laid_sentinel h6 Ad.gSyn tSyn Tryz.underlying309 rowErr Tryz.underlying378 Tryz.underlying380 rfl rfl Tryz.underlying9 (by kernel_rfl) (by kernel_rfl)
  have hS := tabIs_of_head (zs := asciiSpaceTab) Tx.gSp tSp Tryz.underlying306 Tryz.underlying5 (by kernel_rfl) (by kernel_rfl) h8
  exact ⟨⟨Tryz.laysM146.s1_3 W hsh, ⟨_, _, hv1⟩, ⟨_, _, hv0⟩, hT⟩, ⟨Tryz.laysM146.s1_3 W hsh, hS⟩⟩

end Ru
end Go.Proofs.YtcockldefmmhbaaGreatDoor
