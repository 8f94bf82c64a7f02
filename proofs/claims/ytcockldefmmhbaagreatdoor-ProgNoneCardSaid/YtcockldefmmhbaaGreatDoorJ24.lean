/- Several texts of this proof in one file, each in its own namespace. -/
import Derived.Test.YtcockldefmmhbaaGreatDoorRows
import Derived.Test.YtcockldefmmhbaaGreatDoorJ12
import Derived.WalkKit
import Derived.ProofKit
import Derived.OpenShut
import Derived.BigQuiet
import Derived.Deep.RegionWith
import Derived.Lib.Hide
set_option linter.unusedVariables false
set_option maxRecDepth 100000
namespace Go.Proofs.YtcockldefmmhbaaGreatDoor
open Go.ChangeShapes Go.WideShapes Go.ChangeAt Go.RowKit Go.Mtl
namespace Sm
open SumM (norm add upto norm_big norm_small add_le upto_zero upto_le upto_step upto_done norm_le)
theorem ret_int {k:IntKind} {a b:Int} (h:a=b):Ending.returned (.int k a) = .returned (.int k b):=by rw [h]
theorem u16_wrap (n:Int):IntKind.u16.wrap n=n % 65536:=by simp [IntKind.wrap,IntKind.bits,IntKind.signed]
theorem carry_is (x y:Nat) (hx:x<=65535) (hy:y<=65535):IntKind.u16.wrap (IntKind.u16.wrap ((x:Int)+y)+((x:Int)+y) / 65536)=(norm (x+y):Nat):=by
 rw [u16_wrap,u16_wrap]
 by_cases h:65535 < x+y
 ·rw [norm_big _ h (by omega)];omega
 ·rw [norm_small _ (by omega)];omega
theorem carry_any (x y:Nat) (hx:x<=65535) (hy:y<=65535) (w:World) :
  Calls Tryz.prog 245 #[.int .u16 (x:Int),.int .u16 (y:Int)] w fun e w'=>e = .returned (.int .u16 (norm (x+y):Nat))/\w=w':=by
 go_enter Tryz.func245,Tryz.ntmps245
 go_wp2
 go_ret
 exact ⟨ret_int (carry_is x y hx hy),rfl⟩
theorem part_any (i c:Nat) (hi:i<=9223372036854775807) (hc:c < 256) (w:World) :
  Calls Tryz.prog 246 #[.int .i64 (i:Int),.int .u8 (c:Int)] w fun e w'=>e = .returned (.int .u16 (SumM.part i c:Nat))/\w=w':=by
 by_cases h:i % 2=0
 ·have h2:(i:Int) % 2=0:=by omega
  have h3:0<=(c:Int) * 256/\(c:Int) * 256 < 65536:=by omega
  have HF:=Lib.hid (SumM.part_even c h)
  clear h
  go_enter Tryz.func246,Tryz.ntmps246
  go_wp2
  go_ret
  exact ⟨ret_int (by first | (rw [HF.out];done) | (rw [HF.out];rfl) | (rw [HF.out];simp;done) | (rw [HF.out,u16_wrap];simp;omega) | (rw [HF.out];simp;omega)),rfl⟩
 ·have h2:(i:Int) % 2=1:=by omega
  have HF:=Lib.hid (SumM.part_odd c (show i % 2=1 by omega))
  clear h
  go_enter Tryz.func246,Tryz.ntmps246
  go_wp2
  go_ret
  exact ⟨ret_int (by first | (rw [HF.out];done) | (rw [HF.out];rfl)),rfl⟩
set_option maxHeartbeats 1000000 in
theorem add_any (s:Nat) (A:Option Addr) (n c:Nat) (bs:List UInt8) (W:World) (B:Nat) (hb:Bts W B A n bs) (hs:s<=65535) (hc:n<=c) (hm:c<=9223372036854775807) :
  Calls Tryz.prog 187 #[.int .u16 (s:Int),.slice A n c] W fun e w'=>e = .returned (.int .u16 (add s bs:Nat))/\W=w':=by
 have hl:=hb.len
 have HB:=Lib.hid hb
 have HZ:=Lib.hid (upto_zero s bs hs)
 clear hb
 go_enter Tryz.func187,Tryz.ntmps187
 go_wp2
 go_loop [0,5,6,9] (fun s' _ _ i=>∃ k:Nat,k<=n/\i = .int .i64 (k:Int)/\s' = .int .u16 (upto s bs k:Nat)) (fun _ _ _ i=>n - (intOf i).toNat)
 case atStart=>exact ⟨0,by omega,rfl,by rw [HZ.out]⟩
 case round =>
  obtain ⟨k,hk,rfl,rfl⟩:=hrel
  by_cases hlt:k < n
  ·obtain ⟨b,off,rfl,_,hcell⟩:=HB.out.at_ (by omega)
   have hk1:=hcell k hlt
   have hby:=byt_lt bs k
   have hu:=upto_le s bs k
   have hpl:=SumM.part_le k _ hby
   have HS:=Lib.hid (upto_step s bs k)
   clear hcell
   go_wp2_with (first
    | (go_at_call 246;refine (part_any _ _ (by omega) hby _).mono ?_;rintro e w' ⟨rfl,rfl⟩)
    | (go_at_call 245;refine (carry_any _ _ hu (by omega) _).mono ?_;rintro e w' ⟨rfl,rfl⟩))
   go_round
   case rel=>exact ⟨k+1,by omega,by go_num,by rw [HS.out]⟩
   case measure=>simp [intOf];omega
  ·have HK:=Lib.hid (upto_done s bs k (by omega))
   go_wp2
   go_ret
   exact ⟨by rw [← HK.out];rfl,rfl⟩
end Sm
end Go.Proofs.YtcockldefmmhbaaGreatDoor
set_option linter.unusedVariables false
set_option maxRecDepth 100000
namespace Go.Proofs.YtcockldefmmhbaaGreatDoor
open Go.ChangeShapes Go.WideShapes Go.ChangeAt Go.RowKit Go.Mtl
namespace Sm
open SumM (norm add upto norm_big norm_small add_le upto_zero upto_le upto_step upto_done norm_le)
end Sm
end Go.Proofs.YtcockldefmmhbaaGreatDoor
