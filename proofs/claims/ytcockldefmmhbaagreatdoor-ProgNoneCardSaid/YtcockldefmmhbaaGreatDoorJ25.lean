/- Several texts of this proof in one file, each in its own namespace. -/
import Derived.Test.YtcockldefmmhbaaGreatDoorJ24
import Derived.Test.YtcockldefmmhbaaGreatDoorComO
set_option linter.unusedVariables false
set_option maxRecDepth 100000
namespace Go.Proofs.YtcockldefmmhbaaGreatDoor
open Go.ChangeShapes Go.WideShapes Go.ChangeAt Go.RowKit Go.Mtl
namespace Sm
open SumM (norm add upto norm_big norm_small add_le upto_zero upto_le upto_step upto_done norm_le)
end Sm
end Go.Proofs.YtcockldefmmhbaaGreatDoor
set_option linter.unusedVariables false
set_option maxRecDepth 100000
namespace Go.Proofs.YtcockldefmmhbaaGreatDoor
open Go.ChangeShapes Go.WideShapes Go.ChangeAt Go.RowKit Go.Mtl
namespace Sm
open SumM (norm add upto norm_big norm_small add_le upto_zero upto_le upto_step upto_done norm_le turn)
theorem u8_info:(Tryz.prog.info? 5).map (fun i=>(i.zero,i.size,i.bytes))=some (some (.int .u8 0),1,1):=by kernel_rfl
abbrev OwnAt (w:World) (base g n cap:Nat) (bs:List UInt8):Prop:=w.ownsRow base 5 1 (.slice (some ⟨g,0,none⟩) n cap) n (bvs bs)
theorem own_bts {w:World} {base g n cap:Nat} {bs:List UInt8} (h:OwnAt w base g n cap bs):Bts w w.heap.size (some ⟨g,0,none⟩) n bs:=bts_of_own h rfl
theorem add0_any (A:Option Addr) (n c:Nat) (bs:List UInt8) (W:World) (B:Nat) (hb:Bts W B A n bs) (hc:n<=c) (hm:c<=9223372036854775807) :
  Calls Tryz.prog 187 #[.int .u16 0,.slice A n c] W fun e w'=>e = .returned (.int .u16 (add 0 bs:Nat))/\W=w':=add_any 0 A n c bs W B hb (by omega) hc hm
end Sm
end Go.Proofs.YtcockldefmmhbaaGreatDoor
