/- Layer 12: what the listed variables and the world's shape give (Env); the types of a rule. -/
import Derived.Test.YtfbbkbjiaopnkaaDoorRulB
import Derived.Test.YtfbbkbjiaopnkaaDoorRows
import Derived.Lib.LaidTab
import Derived.MakeChecks
import Derived.LaidMore
import Derived.Stop.LaidErr
import Derived.Lay
set_option linter.unusedVariables false
namespace Go.Proofs.YtfbbkbjiaopnkaaDoor
open Go.ChangeShapes Go.WideShapes Go.ChangeAt Go.RowKit Go.Mtl Go.Shelf Go.Lib
namespace Ru
theorem tSyn : (Tryd.prog.globals[6]?).map (·.type) = some 45 := by kernel_rfl
theorem tRng : (Tryd.prog.globals[7]?).map (·.type) = some 45 := by kernel_rfl
theorem tTab : (Tryd.prog.globals[3]?).map (·.type) = some 141 := by kernel_rfl
theorem tSp : (Tryd.prog.globals[1]?).map (·.type) = some 98 := by kernel_rfl
theorem star : "*" ++ "errors.errorString" = "*errors.errorString" := by decide
theorem rowErr (u : TypeId) (h : Tryd.prog.typeName? 3 u = some "*errors.errorString") : u = 155 :=
  typeName_ptr_named (nm := "errors.errorString") (by rw [star]; kernel_rfl) (by kernel_rfl) (by decide) u (by rw [star]; exact h)
theorem sp_is : (Rows.laid_strings_asciiSpace : DataW Unit) = tabData .u8 asciiSpaceTab := by kernel_rfl
/-- The listed variables of the rows of layer 12. -/
abbrev laid12 : List (String × DataW Unit) := [("math/bits.deBruijn32tab", Rows.laid_math_bits_deBruijn32tab), ("math/bits.deBruijn64tab", Rows.laid_math_bits_deBruijn64tab), ("internal/strconv.uint64pow10", Rows.laid_internal_strconv_uint64pow10), ("unicode/utf8.acceptRanges", Rows.laid_unicode_utf8_acceptRanges), ("strconv.ErrRange", Rows.laid_strconv_ErrRange), ("strconv.ErrSyntax", Rows.laid_strconv_ErrSyntax), ("unicode.White_Space", Rows.laid_unicode_White_Space), ("strings.asciiSpace", Rows.laid_strings_asciiSpace), ("unicode/utf8.first", Rows.laid_unicode_utf8_first)]
set_option maxRecDepth 100000 in
theorem env_of {W : World} (hL : laidMetH Tryd.prog laid12 W) (hsh : W.ShapedOpen Tryd.prog) : Env W := by
  rw [MakeChecks.laidMetH_plain _ _ _ (by kernel_rfl)] at hL
  have h1 : laidMet Tryd.prog (("math/bits.deBruijn32tab", Rows.laid_math_bits_deBruijn32tab) :: _) W := hL
  have h3 := h1.tail.tail
  have h5 := h3.tail.tail
  have h6 := h5.tail
  have h8 : laidMet Tryd.prog (("strings.asciiSpace", tabData .u8 asciiSpaceTab) :: _) W := sp_is ▸ h6.tail.tail
  have hT := tabIs_of_head (zs := pow10Tab) Ad.gTab tTab Tryd.underlying141 Tryd.underlying96 (by kernel_rfl) (by kernel_rfl) h3
  obtain ⟨a0, s0, hv0, -, -, -⟩ := laid_sentinel h5 Ad.gRng tRng Tryd.underlying45 rowErr Tryd.underlying155 Tryd.underlying157 rfl rfl Tryd.underlying9 (by kernel_rfl) (by kernel_rfl)
  obtain ⟨a1, s1, hv1, -, -, -⟩ := laid_sentinel h6 Ad.gSyn tSyn Tryd.underlying45 rowErr Tryd.underlying155 Tryd.underlying157 rfl rfl Tryd.underlying9 (by kernel_rfl) (by kernel_rfl)
  have hS := tabIs_of_head (zs := asciiSpaceTab) Tx.gSp tSp Tryd.underlying98 Tryd.underlying5 (by kernel_rfl) (by kernel_rfl) h8
  exact ⟨⟨Tryd.laysM146.s1_3 W hsh, ⟨_, _, hv1⟩, ⟨_, _, hv0⟩, hT⟩, ⟨Tryd.laysM146.s1_3 W hsh, hS⟩⟩

theorem ruleTypes : RuleTypes Tryd.prog 42 :=
  ⟨_, _, _, 4, 5, 37, 40, 35, 3, 38, Tryd.underlying42, by kernel_rfl, Tryd.underlying4, Tryd.underlying5, Tryd.underlying37, by kernel_rfl, Tryd.underlying35, Tryd.underlying3,
    Tryd.underlying40, by kernel_rfl, Tryd.underlying38, by kernel_rfl, by kernel_rfl, by kernel_rfl, by kernel_rfl, by kernel_rfl, by kernel_rfl, by kernel_rfl, by kernel_rfl⟩
end Ru
end Go.Proofs.YtfbbkbjiaopnkaaDoor
