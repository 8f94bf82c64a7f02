/- Several texts of this proof in one file, each in its own namespace. -/
import Derived.Test.YtcockldefmmhbaaGreatDoorJ31
import Derived.Deep.DeepCutAuto
import Derived.Deep.RegionHeld3
set_option linter.unusedVariables false
set_option linter.unusedSimpArgs false
set_option maxRecDepth 100000
namespace Go.Proofs.YtcockldefmmhbaaGreatDoor
open Go.ChangeShapes Go.WideShapes Go.ChangeAt Go.RowKit Go.Mtl
namespace Ky
open KeyM (lowB lessB)
def LQ (W:World) (ka kb:Array Value) (w:World):Prop:=Blk w W.heap.size ka 87/\Blk w (W.heap.size+1) kb 87/\Below W.heap.size W w
theorem LQ.next {W w w':World} {ka kb:Array Value} (H:LQ W ka kb w) (hb:Below w.heap.size w w'):LQ W ka kb w':=⟨H.1.next hb,H.2.1.next hb,H.2.2.trans (hb.mono H.2.2.size)⟩
theorem LQ.alloc {W w:World} {ka kb:Array Value} (H:LQ W ka kb w) (o:Obj):LQ W ka kb (w.alloc o):=H.next ((Below.refl _ _).alloc (Nat.le_refl _) o)
theorem LQ.box {W w:World} {ka kb cs:Array Value} {t:TypeId} (H:LQ W ka kb (w.alloc (.cells cs t))):Blk (w.alloc (.cells cs t)) w.heap.size cs t:=Blk.box w cs t
theorem LQ.drew {W w:World} {ka kb:Array Value} (H:LQ W ka kb w):LQ W ka kb w.drew:=⟨H.1.drew,H.2.1.drew,H.2.2.drew⟩
theorem LQ.store {W w:World} {ka kb:Array Value} {g:Nat} (H:LQ W ka kb w) (hg:W.heap.size+1 < g) (v u:Value):LQ W ka kb ((w.setCell ⟨g,0,none⟩ v).setCell ⟨g,1,none⟩ u) :=
 ⟨(H.1.other g 0 (by omega) v).other g 1 (by omega) u,(H.2.1.other g 0 (by omega) v).other g 1 (by omega) u,(H.2.2.setCell (p:=⟨g,0,none⟩) (by simp;omega) v).setCell (p:=⟨g,1,none⟩) (by simp;omega) u⟩
section
variable {w:World} {g k:Nat} {t:TypeId} {cs:Array Value} {x y:Int}
end
end Ky
end Go.Proofs.YtcockldefmmhbaaGreatDoor
set_option linter.unusedVariables false
set_option linter.unusedSimpArgs false
namespace Go.Proofs.YtcockldefmmhbaaGreatDoor
open Go.ChangeShapes Go.WideShapes Go.ChangeAt Go.RowKit Go.Mtl
namespace Ky
open KeyM (lowB lessB hashN isPow)
def AQ (W:World) (g k:Nat) (ka kb:Array Value) (w:World):Prop:=Blk w g ka 87/\Blk w k kb 87/\Below W.heap.size W w
theorem AQ.next {W w w':World} {g k:Nat} {ka kb:Array Value} (H:AQ W g k ka kb w) (hb:Below w.heap.size w w'):AQ W g k ka kb w':=⟨H.1.next hb,H.2.1.next hb,H.2.2.trans (hb.mono H.2.2.size)⟩
theorem AQ.drew {W w:World} {g k:Nat} {ka kb:Array Value} (H:AQ W g k ka kb w):AQ W g k ka kb w.drew:=⟨H.1.drew,H.2.1.drew,H.2.2.drew⟩
end Ky
end Go.Proofs.YtcockldefmmhbaaGreatDoor
set_option linter.unusedVariables false
set_option linter.unusedSimpArgs false
namespace Go.Proofs.YtcockldefmmhbaaGreatDoor
open Go.ChangeShapes Go.WideShapes Go.ChangeAt Go.RowKit Go.Mtl
namespace Ky
open KeyM (lowB lessB hashN isPow strN)
theorem stripe_any (a b p q r:Nat) (s:Int) (ha:a < 4294967296) (hb:b < 4294967296) (hp:p < 65536) (hq:q < 65536) (hr:r < 256) (x:Nat) (hx:hashN a b p q r=x) (y:Int) (hy:strN x s=y) (W:World) :
  Calls Tryz.prog 66 #[.agg (kyc a b p q r),.int .i64 s] W fun e w'=>e = .returned (.int .i64 y)/\Below W.heap.size W w':=by
 rcases hs:isPow s with _ | _
 ·rw [KeyM.strN_no hs] at hy
  subst hy
  exact stripe_no a b p q r s hs W
 ·rw [KeyM.strN_yes hs] at hy
  subst hy
  exact stripe_yes a b p q r s hs ha hb hp hq hr x hx W
end Ky
end Go.Proofs.YtcockldefmmhbaaGreatDoor
