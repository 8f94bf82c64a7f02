import Derived.Test.YtcockldefmmhbaaGreatDoorJ52
import Derived.Test.YtcockldefmmhbaaGreatDoorJ45
set_option linter.unusedVariables false
namespace Go.Proofs.YtcockldefmmhbaaGreatDoor
open Go.ChangeShapes Go.WideShapes Go.ChangeAt Go.RowKit Go.Mtl Go.Shelf Go.Lib
namespace Pg
abbrev laid21:List (String × DataW Unit):=("mantlet/flow.parts",Rows.laid_mantlet_flow_parts) :: ("mantlet/gate.parts",Rows.laid_mantlet_gate_parts) :: ("mantlet/tcp.consistent",Rows.laid_mantlet_tcp_consistent) :: Ru.laid12
set_option maxRecDepth 100000 in
theorem env_of {W:World} (hL:laidMetH Tryz.prog laid21 W) (hsh:W.ShapedOpen Tryz.prog):EnvL W:=by
 rw [MakeChecks.laidMetH_plain _ _ _ (by kernel_rfl)] at hL
 have h1:laidMet Tryz.prog (("mantlet/flow.parts",Rows.laid_mantlet_flow_parts) :: _) W:=hL
 have h2:=h1.tail
 have h3:=h2.tail
 have h4:=h3.tail
 have hg:Ga.Env W:=Ga.env_of (by rw [MakeChecks.laidMetH_plain _ _ _ (by kernel_rfl)];exact Au.laid_head h2)
 have hf:Fl.Env W:=Fl.env_of (by rw [MakeChecks.laidMetH_plain _ _ _ (by kernel_rfl)];exact Au.laid_head h1)
 have ht:Tc.Env W:=Tc.env_of (by rw [MakeChecks.laidMetH_plain _ _ _ (by kernel_rfl)];exact Au.laid_head h3)
 have hr:Ru.Env W:=Ru.env_of (by rw [MakeChecks.laidMetH_plain _ _ _ (by kernel_rfl)];exact h4) hsh
 exact ⟨⟨⟨hg,hf⟩,ht,hr⟩,⟨hg,hf,⟨hr.ad.tab⟩⟩⟩
end Pg
end Go.Proofs.YtcockldefmmhbaaGreatDoor
