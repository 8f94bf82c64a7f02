/- Layer 11: what the listed variables and the world's shape give (Env). -/
import Derived.Test.YtdppaijofpbdeaaDoorTxtB
import Derived.Test.YtdppaijofpbdeaaDoorRows
import Derived.Lib.LaidTab
import Derived.MakeChecks
import Derived.LaidMore
import Derived.Stop.LaidErr
set_option linter.unusedVariables false
namespace Go.Proofs.YtdppaijofpbdeaaDoor
open Go.ChangeShapes Go.WideShapes Go.ChangeAt Go.RowKit Go.Mtl Go.Shelf Go.Lib
namespace Tx
theorem tSp : (Tryd.prog.globals[1]?).map (·.type) = some 51 := by kernel_rfl
theorem sp_is : (Rows.laid_strings_asciiSpace : DataW Unit) = tabData .u8 asciiSpaceTab := by kernel_rfl
set_option maxRecDepth 100000 in
theorem env_of {W : World} (hL : laidMetH Tryd.prog Rows.textLinesRow.laid W) (hsh : W.ShapedOpen Tryd.prog) : Env W := by
  rw [MakeChecks.laidMetH_plain _ _ _ (by kernel_rfl)] at hL
  have h1 : laidMet Tryd.prog (("unicode/utf8.acceptRanges", Rows.laid_unicode_utf8_acceptRanges) :: _) W := hL
  have h3 : laidMet Tryd.prog (("strings.asciiSpace", tabData .u8 asciiSpaceTab) :: _) W := sp_is ▸ h1.tail.tail
  have hT := tabIs_of_head (zs := asciiSpaceTab) gSp tSp Tryd.underlying51 Tryd.underlying5 (by kernel_rfl) (by kernel_rfl) h3
  exact ⟨Tryd.laysM146.s1_3 W hsh, hT⟩
end Tx
end Go.Proofs.YtdppaijofpbdeaaDoor
