import Derived.Test.YtbhnbcadgmagpaaGreatDoorBig
import Derived.Test.YtbhnbcadgmagpaaGreatDoorJ1
import Derived.Test.YtbhnbcadgmagpaaGreatDoorJ3
import Derived.Test.YtbhnbcadgmagpaaGreatDoorRows
set_option linter.unusedVariables false
set_option linter.unusedSimpArgs false
set_option maxHeartbeats 1000000
set_option maxRecDepth 100000
namespace Go.Proofs.YtbhnbcadgmagpaaGreatDoor
open Go.aN
namespace iC
def part(i c:Nat):Nat:=if i % 2=0 then c*256 else c
theorem GA{i:Nat}(c:Nat)(h:i % 2=0):part i c=c*256:=by unfold part;rw[if_pos h]
theorem KX{i:Nat}(c:Nat)(h:i % 2=1):part i c=c:=by unfold part;rw[if_neg zo]
theorem N8(i c:Nat)(h:c<256):part i c<=65280:=by unfold part;split <;> omega
theorem GB(i:Nat):part i 0=0:=by unfold part;split <;> rfl
def tot(bs:List UInt8):Nat->Nat
 | 0=>0
 | k+1=>tot bs k+part k (aJ bs k)
theorem KY(bs:List UInt8):tot bs 0=0:=rfl
theorem Bq(bs:List UInt8)(k:Nat):tot bs (k+1)=tot bs k+part k (aJ bs k):=rfl
theorem lG(bs:List UInt8)(k:Nat)(h:bs.length<=k):aJ bs k=0:=by
 unfold aJ;simp[List.getD,List.getElem?_eq_none h]
theorem N9(bs:List UInt8)(k:Nat)(h:bs.length<=k):tot bs k=tot bs bs.length:=by
 induction k with
 | zero=>rw[Nat.le_zero.1 h]
 | succ k ih =>
  by_cases e:bs.length<=k
  ·rw[Bq,lG bs k e,GB,Nat.add_zero,ih e]
  ·rw[show bs.length=k+1 by omega]
def norm(n:Nat):Nat:=if n=0 then 0 else(n - 1) % 65535+1
theorem norm_le(n:Nat):norm n<=65535:=by unfold norm;split <;> omega
theorem iq(n:Nat)(h:n<=65535):norm n=n:=by unfold norm;split <;> omega
theorem mK(n:Nat)(h:65535<n)(h2:n<=131070):norm n=n - 65535:=by unfold norm;split <;> omega
theorem KZ(a b:Nat):norm (norm a+b)=norm (a+b):=by unfold norm;split <;> split <;> split <;> omega
def add(s:Nat)(bs:List UInt8):Nat:=norm (s+tot bs bs.length)
theorem cV(s:Nat)(bs:List UInt8):add s bs<=65535:=norm_le _
def upto(s:Nat)(bs:List UInt8)(k:Nat):Nat:=norm (s+tot bs k)
theorem kN(s:Nat)(bs:List UInt8)(h:s<=65535):upto s bs 0=s:=iq _ (by rw[KY];omega)
theorem ql(s:Nat)(bs:List UInt8)(k:Nat):upto s bs k<=65535:=norm_le _
theorem kO(s:Nat)(bs:List UInt8)(k:Nat):norm (upto s bs k+part k (aJ bs k))=upto s bs (k+1):=by
 unfold upto;rw[KZ,Bq,Nat.add_assoc]
theorem kP(s:Nat)(bs:List UInt8)(k:Nat)(h:bs.length<=k):upto s bs k=add s bs:=by
 unfold upto add;rw[N9 bs k h]
def lay(bs:List UInt8)(k c:Nat):List UInt8:=(bs.set k (UInt8.ofNat (c / 256))).set (k+1) (UInt8.ofNat (c % 256))
end iC
end Go.Proofs.YtbhnbcadgmagpaaGreatDoor
namespace Go.Proofs.YtbhnbcadgmagpaaGreatDoor
open Go.Lib (hid)
open Go.ChangeShapes Go.WideShapes Go.ChangeAt Go.RowKit Go.aN
namespace Sm
open iC (norm add upto mK iq cV kN ql kO kP norm_le)
theorem ax{k:IntKind}{a b:Int}(h:a=b):Ending.returned (.int k a) = .returned (.int k b):=by rw[h]
theorem uM(n:Int):IntKind.u16.wrap n=n % 65536:=by simp[IntKind.wrap,IntKind.bits,IntKind.signed]
theorem La(x y:Nat)(hx:x<=65535)(hy:y<=65535):IntKind.u16.wrap (IntKind.u16.wrap ((x:Int)+y)+((x:Int)+y) / 65536)=(norm (x+y):Nat):=by
 rw[uM,uM];by_cases h:65535<x+y
 ·rw[mK _ h zo];omega
 ·rw[iq _ zo];omega
theorem GM(x y:Nat)(hx:x<=65535)(hy:y<=65535)(w:World) :
  Calls Tryz.prog 245 #[.int .u16 (x:Int),.int .u16 (y:Int)] w λe w'=>e = .returned (.int .u16 (norm (x+y):Nat))/\w=w':=by
 go_in
 go_wp2
 go_ret
 exact⟨ax (La x y hx hy),rfl⟩
theorem Lb(i c:Nat)(hi:i<=9223372036854775807)(hc:c<256)(w:World) :
  Calls Tryz.prog 246 #[.int .i64 (i:Int),.int .u8 (c:Int)] w λe w'=>e = .returned (.int .u16 (iC.part i c:Nat))/\w=w':=by
 by_cases h:i % 2=0
 ·have h2:(i:Int) % 2=0:=zo;have h3:0<=(c:Int)*256/\(c:Int)*256<65536:=zo;have HF:=hid (iC.GA c h);clear h;go_in;go_wp2;go_ret;exact⟨ax (by first | (rw[HF.out];done) | (rw[HF.out];rfl) | (rw[HF.out];simp;done) | (rw[HF.out,uM];simp;omega) | (rw[HF.out];simp;omega)),rfl⟩
 ·have h2:(i:Int) % 2=1:=zo;have HF:=hid (iC.KX c (show i % 2=1 by omega));clear h;go_in;go_wp2;go_ret;exact⟨ax (by first | (rw[HF.out];done) | (rw[HF.out];rfl)),rfl⟩
theorem qp(s:Nat)(A:Option Addr)(n c:Nat)(bs:List UInt8)(W:World)(B:Nat)(hb:bI W B A n bs)(hs:s<=65535)(hc:n<=c)(hm:c<=9223372036854775807) :
  Calls Tryz.prog 187 #[.int .u16 (s:Int),.slice A n c] W λe w'=>e = .returned (.int .u16 (add s bs:Nat))/\W=w':=by
 have hl:=hb.len
 have HB:=hid hb
 have HZ:=hid (kN s bs hs)
 clear hb
 go_in
 go_wp2
 go_loop [0,5,6,9] (λs' _ _ i=>∃k:Nat,k<=n/\i = .int .i64 (k:Int)/\s' = .int .u16 (upto s bs k:Nat)) (λ_ _ _ i=>n - (RowKit.intOf i).toNat)
 case atStart=>exact⟨0,by omega,rfl,by rw[HZ.out]⟩
 case round =>
  obtain⟨k,hk,rfl,rfl⟩:=hrel;by_cases hlt:k<n
  ·obtain⟨b,off,rfl,_,hcell⟩:=HB.out.at_ zo;have hk1:=hcell k hlt;have hby:=dB bs k;have hu:=ql s bs k;have hpl:=iC.N8 k _ hby;have HS:=hid (kO s bs k);clear hcell
   go_wp2_with (first
    | (go_at_call 246;refine(Lb _ _ zo hby _).mono ?_;rintro e w' ⟨rfl,rfl⟩)
    | (go_at_call 245;refine(GM _ _ hu zo _).mono ?_;rintro e w' ⟨rfl,rfl⟩))
   go_round
   case rel=>exact⟨k+1,by omega,by go_num,by rw[HS.out]⟩
   case measure=>simp[RowKit.intOf];omega
  ·have HK:=hid (kP s bs k zo);go_wp2;go_ret;exact⟨by rw[← HK.out];rfl,rfl⟩
end Sm
end Go.Proofs.YtbhnbcadgmagpaaGreatDoor
namespace Go.Proofs.YtbhnbcadgmagpaaGreatDoor
open Go.ChangeShapes Go.WideShapes Go.ChangeAt Go.RowKit Go.aN
namespace Sm
open iC (norm add upto mK iq cV kN ql kO kP norm_le)
end Sm
namespace Sm
open iC (norm add upto mK iq cV kN ql kO kP norm_le lay)
theorem dy:(Tryz.prog.info? 5).map (λi=>(i.zero,i.size,i.bytes))=some (some (.int .u8 0),1,1):=zk
theorem Lm(A:Option Addr)(n c:Nat)(bs:List UInt8)(W:World)(B:Nat)(hb:bI W B A n bs)(hc:n<=c)(hm:c<=9223372036854775807) :
  Calls Tryz.prog 187 #[.int .u16 0,.slice A n c] W λe w'=>e = .returned (.int .u16 (add 0 bs:Nat))/\W=w':=qp 0 A n c bs W B hb zo hc hm
end Sm
end Go.Proofs.YtbhnbcadgmagpaaGreatDoor
