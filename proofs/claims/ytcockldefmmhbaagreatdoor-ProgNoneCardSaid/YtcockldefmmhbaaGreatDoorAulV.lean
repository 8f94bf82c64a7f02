/- Layer 18: what the listed variables give (Env). -/
import Derived.Test.YtcockldefmmhbaaGreatDoorJ51
import Derived.Test.YtcockldefmmhbaaGreatDoorJ39
import Derived.Test.YtcockldefmmhbaaGreatDoorRows
import Derived.Lib.LaidTab
import Derived.MakeChecks
import Derived.LaidMore
import Derived.Stop.LaidErr
import Derived.Lay
set_option linter.unusedVariables false
namespace Go.Proofs.YtcockldefmmhbaaGreatDoor
open Go.ChangeShapes Go.WideShapes Go.ChangeAt Go.RowKit Go.Mtl Go.Shelf Go.Lib
namespace Au
theorem tTab : (Tryz.prog.globals[10]?).map (·.type) = some 375 := by kernel_rfl
theorem laid_head {P : Program} {x : String × DataW Unit} {r : List (String × DataW Unit)} {w : World} (h : laidMet P (x :: r) w) : laidMet P [x] w := by
  obtain ⟨ps, hv, hnd, hrows⟩ := h
  obtain ⟨n, d⟩ := x
  obtain ⟨g, t, cs, fuel, p, q, h1, h2, h3, h4, hq, rfl⟩ := hv
  refine ⟨_, ⟨g, t, cs, fuel, p, [], h1, h2, h3, h4, rfl, rfl⟩, ?_, fun b off hm => hrows b off (List.mem_append_left _ ?_)⟩
  · rw [List.append_nil]; exact List.Nodup.sublist (List.sublist_append_left _ _) hnd
  · rw [List.append_nil] at hm; exact hm
/-- The listed variables of the rows of layer 18. -/
abbrev laid18 : List (String × DataW Unit) := [("mantlet/flow.parts", Rows.laid_mantlet_flow_parts), ("mantlet/gate.parts", Rows.laid_mantlet_gate_parts), ("math/bits.deBruijn32tab", Rows.laid_math_bits_deBruijn32tab), ("math/bits.deBruijn64tab", Rows.laid_math_bits_deBruijn64tab), ("internal/strconv.uint64pow10", Rows.laid_internal_strconv_uint64pow10)]
set_option maxRecDepth 100000 in
theorem env_of {W : World} (hL : laidMetH Tryz.prog laid18 W) : Env W := by
  rw [MakeChecks.laidMetH_plain _ _ _ (by kernel_rfl)] at hL
  have h1 : laidMet Tryz.prog (("mantlet/flow.parts", Rows.laid_mantlet_flow_parts) :: _) W := hL
  have h2 := h1.tail
  have h5 := h2.tail.tail.tail
  have hT := tabIs_of_head (zs := pow10Tab) Ah.gTab tTab Tryz.underlying375 Tryz.underlying56 (by kernel_rfl) (by kernel_rfl) h5
  exact ⟨Ga.env_of (by rw [MakeChecks.laidMetH_plain _ _ _ (by kernel_rfl)]; exact laid_head h2), Fl.env_of (by rw [MakeChecks.laidMetH_plain _ _ _ (by kernel_rfl)]; exact laid_head h1), ⟨hT⟩⟩
end Au
end Go.Proofs.YtcockldefmmhbaaGreatDoor
