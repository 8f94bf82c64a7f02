import Derived.Test.YtcockldefmmhbaaGreatDoorJ31
import Derived.Deep.RegionHeld
set_option linter.unusedVariables false
set_option linter.unusedSimpArgs false
set_option maxRecDepth 100000
namespace Go.Proofs.YtcockldefmmhbaaGreatDoor
open Go.ChangeShapes Go.WideShapes Go.ChangeAt Go.RowKit Go.Mtl
namespace Fl
open FloM (gI Fit)
theorem quiet_below {P:Program} {f:FuncId} {args:Array Value} {w:World} {v:Value} (h:Calls P f args w fun e w'=>e = .returned v/\∃ n,w'=w.drewN n):Calls P f args w fun e w'=>e = .returned v/\Below w.heap.size w w' :=
 h.mono fun _ _ ⟨a,n,b⟩=>⟨a,b ▸ (Below.refl _ w).drews n⟩
def clip (u:Int):Int:=if u < 0 then 0 else if 1099511627775 < u then 1099511627775 else u
def up (k:Int):Int:=if k < 1048575 then k+1 else 1048575
theorem clip_fit (u:Int):0<=clip u/\clip u < 1099511627776:=by unfold clip;split <;> (try split) <;> omega
theorem up_fit {k:Int} (h0:0<=k) (h1:k < 1048576):0<=up k/\up k < 1048576:=by unfold up;split <;> omega
def QW (W w:World):Prop:=Env w/\∃ n,w=W.drewN n
theorem QW.next {W w w':World} (H:QW W w) (hb:∃ n,w'=w.drewN n):QW W w':=by
 obtain ⟨he,n,rfl⟩:=H
 obtain ⟨m,rfl⟩:=hb
 exact ⟨he.drewN m,n+m,by rw [World.drewN_drewN]⟩
theorem QW.drew {W w:World} (H:QW W w):QW W w.drew:=⟨H.1.drewN 1,H.2.elim fun n h=>⟨n+1,by rw [h];rfl⟩⟩
theorem QW.start {W:World} (he:Env W):QW W W:=⟨he,0,rfl⟩
def overB (c k v t:Int):Bool:=decide (v=0\/v=15\/c<=t\/k=1048575)
end Fl
end Go.Proofs.YtcockldefmmhbaaGreatDoor
