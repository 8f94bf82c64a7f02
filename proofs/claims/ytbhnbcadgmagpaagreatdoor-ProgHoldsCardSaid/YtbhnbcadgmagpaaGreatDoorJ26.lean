import Derived.Test.YtbhnbcadgmagpaaGreatDoorBig
import Derived.Test.YtbhnbcadgmagpaaGreatDoorJ1
import Derived.Test.YtbhnbcadgmagpaaGreatDoorJ21
import Derived.Test.YtbhnbcadgmagpaaGreatDoorJ18
import Derived.Test.YtbhnbcadgmagpaaGreatDoorJ25
import Derived.Test.YtbhnbcadgmagpaaGreatDoorJ3
set_option linter.unusedVariables false
set_option linter.unusedSimpArgs false
set_option maxHeartbeats 2000000
set_option maxRecDepth 100000
namespace Go.Proofs.YtbhnbcadgmagpaaGreatDoor
open Go.aN
namespace Ss
open iC (add tot norm lay cV)
open ov (word j7 aU nT)
def qn(k:Nat):Bool:=decide (k=8)||decide (k=0)
theorem uJ{k:Nat}(h:qn k=true):k=8\/k=0:=by simpa[qn]using h
theorem EX{k:Nat}(h:qn k=false):k≠8/\k≠0:=by simpa[qn]using h
def fW(bs:List UInt8):Nat :=
 if bs.length<8 then 4 else if add 0 bs=65535 then(if qn (aJ bs 0)=true then(if aJ bs 1=0 then 0 else 10)else 10)else 7
theorem K7{bs:List UInt8}(h:fW bs=0):8<=bs.length:=by
 unfold fW at h;split at h
 ·cases h
 ·omega
theorem GF{bs:List UInt8}(h:fW bs=0):aJ bs 0=8\/aJ bs 0=0:=by
 unfold fW at h;split at h
 ·cases h
 split at h
 ·split at h
  ·exact uJ zz
  ·cases h
 ·cases h
def two(l:List UInt8)(a v:Nat):List UInt8:=(l.set a (UInt8.ofNat (v / 256))).set (a+1) (UInt8.ofNat v)
section
variable (K kd id:Nat)(x:List UInt8)
end
end Ss
end Go.Proofs.YtbhnbcadgmagpaaGreatDoor
namespace Go.Proofs.YtbhnbcadgmagpaaGreatDoor
open Go.Lib (hid)
open Go.ChangeShapes Go.WideShapes Go.ChangeAt Go.RowKit Go.aN
namespace Ic
open Ss (qn uJ EX fW two)
open iC (add cV)
open ov (word aU j7)
open Ip (ax mN Row M6 dy fS jZ)
theorem Dx(kd:Nat)(b:Bool)(hb:qn kd=b)(W:World) :
  Calls Tryz.prog 192 #[.int .u8 (kd:Int)] W λe w'=>e = .returned (.bool b)/\W=w':=by
 cases b
 ·obtain⟨h8,h0⟩:=EX hb;have d8:((kd:Int)==8)=false:=zt;have d0:((kd:Int)==0)=false:=zt;clear hb h8 h0;go_in;go_wp2_with fail;go_ret;exact⟨rfl,rfl⟩
 ·rcases uJ hb with rfl | rfl
  ·go_in;go_wp2_with fail;go_ret;exact⟨rfl,rfl⟩
  ·go_in;go_wp2_with fail;go_ret;exact⟨rfl,rfl⟩
theorem cL(A:Option Addr)(n c:Nat)(bs:List UInt8)(B:Nat)(W:World)(hb:bI W B A n bs)(hB:B<=W.heap.size)(hc:n<=c)(hm:c<=9223372036854775807) :
  Calls Tryz.prog 140 #[.slice A n c] W λe w'=>e = .returned (.int .i64 (fW bs:Int))/\W=w':=by
 have hl:=hb.len
 by_cases h8:n<8
 ·have HF:Hid (fW bs=4):=by show _=_;unfold fW;rw[if_pos zo]
  clear hb hl;go_in;go_wp2_with fail;go_ret;exact⟨ax (by rw[HF.out];rfl),rfl⟩
 ·have HT:=hid (Sm.Lm A n c bs W B hb hc hm);obtain⟨b,off,rfl,hlt,hcell⟩:=hb.at_ zo;have c0:W.cell? ⟨b,off,none⟩=_:=hcell 0 zo;have c1:=hcell 1 zo;have y0:=dB bs 0;have y1:=dB bs 1;have htl:=cV 0 bs
  have HE:Hid (fW bs=if add 0 bs=65535 then(if qn (aJ bs 0)=true then(if aJ bs 1=0 then 0 else 10)else 10)else 7):=by show _=_;unfold fW;rw[if_neg zo]
  have HK:=hid (λW b h=>Dx (aJ bs 0) b h W);clear hb hl hcell;generalize add 0 bs=t at HE HT htl;generalize aJ bs 0=k at *;generalize aJ bs 1=cd at *;by_cases h9:t=65535
  ·have d7:((t:Int)!=65535)=false:=zt
   cases hk:qn k
   ·have HF:Hid (fW bs=10):=by show _=_;rw[HE.out,if_pos h9,hk];rfl
    have HK:=hid (HK.out W false hk);clear h9 HE hk;go_in;go_wp2_with fail;refine HT.out.mono ?_;rintro e w1 ⟨rfl,rfl⟩;go_wp2_with fail;refine HK.out.mono ?_;rintro e w1 ⟨rfl,rfl⟩;go_wp2_with fail;go_ret;exact⟨ax (by rw[HF.out];rfl),rfl⟩
   ·have HK:=hid (HK.out W true hk);by_cases hcd:cd=0
    ·have HF:Hid (fW bs=0):=by show _=_;rw[HE.out,if_pos h9,if_pos hk,if_pos hcd]
     have d0:((cd:Int)!=0)=false:=zt;clear h9 HE hk hcd;go_in;go_wp2_with fail;refine HT.out.mono ?_;rintro e w1 ⟨rfl,rfl⟩;go_wp2_with fail;refine HK.out.mono ?_;rintro e w1 ⟨rfl,rfl⟩;go_wp2_with fail;go_ret;exact⟨ax (by rw[HF.out];rfl),rfl⟩
    ·have HF:Hid (fW bs=10):=by show _=_;rw[HE.out,if_pos h9,if_pos hk,if_neg hcd]
     have d0:((cd:Int)!=0)=true:=zt;clear h9 HE hk hcd;go_in;go_wp2_with fail;refine HT.out.mono ?_;rintro e w1 ⟨rfl,rfl⟩;go_wp2_with fail;refine HK.out.mono ?_;rintro e w1 ⟨rfl,rfl⟩;go_wp2_with fail;go_ret;exact⟨ax (by rw[HF.out];rfl),rfl⟩
  ·have d7:((t:Int)!=65535)=true:=zt
   have HF:Hid (fW bs=7):=by show _=_;rw[HE.out,if_neg h9]
   clear h9 HE;go_in;go_wp2_with fail;refine HT.out.mono ?_;rintro e w1 ⟨rfl,rfl⟩;go_wp2_with fail;go_ret;exact⟨ax (by rw[HF.out];rfl),rfl⟩
abbrev gU(e:Nat):Value:=.tuple #[.int .u8 0,.int .u16 0,.int .i64 (e:Int)]
abbrev okV(bs:List UInt8):Value:=.tuple #[.int .u8 (aJ bs 0:Int),.int .u16 (word bs 4:Int),.int .i64 0]
def pV(e:Nat)(bs:List UInt8):Value:=if e=0 then okV bs else gU e
theorem sO{e:Nat}(bs:List UInt8)(h:e=0):pV e bs=okV bs:=by unfold pV;rw[if_pos h]
theorem mP{e:Nat}(bs:List UInt8)(h:e≠0):pV e bs=gU e:=by unfold pV;rw[if_neg h]
theorem yZ(a b:Nat)(ha:a<256)(hb:b<256):bits .or .u16 ((a:Int)*256) (b:Int)=((a*256+b:Nat):Int):=by
 have e:(a:Int)*256=((a*256:Nat):Int):=zo;rw[e];show IntKind.u16.wrap ((BitVec.ofInt 16 ((a*256:Nat):Int) ||| BitVec.ofInt 16 (b:Int)).toNat:Int)=_;rw[BitVec.ofInt_natCast,BitVec.ofInt_natCast,BitVec.toNat_or,BitVec.toNat_ofNat,BitVec.toNat_ofNat,Nat.mod_eq_of_lt zo,Nat.mod_eq_of_lt zo];have h:=Nat.shiftLeft_add_eq_or_of_lt (i:=8) (by omega:b<2 ^ 8) a;rw[Nat.shiftLeft_eq,show 2 ^ 8=256 from rfl]at h;rw[← h];simp[IntKind.wrap,IntKind.bits,IntKind.signed];omega
theorem fB(A:Option Addr)(n c:Nat)(bs:List UInt8)(B:Nat)(W:World)(hb:bI W B A n bs)(hB:B<=W.heap.size)(hc:n<=c)(hm:c<=9223372036854775807)(h0:fW bs≠0) :
  Calls Tryz.prog 98 #[.slice A n c] W λe w'=>e = .returned (gU (fW bs))/\Below W.heap.size W w':=by
 have HC:=hid (cL A n c bs B W hb hB hc hm)
 have d:((fW bs:Int)!=0)=true:=zt
 generalize fW bs=er at HC d
 clear hb h0
 go_in
 go_wp2_with fail
 refine HC.out.mono ?_
 rintro e w1 ⟨rfl,rfl⟩
 go_wp2_with fail
 exact bodyPost_ret (v:=gU er) (by simp[results,Tryz.results98,go_sem]) rfl ⟨rfl,Below.refl _ _⟩
theorem kQ(A:Option Addr)(n c:Nat)(bs:List UInt8)(B:Nat)(W:World)(hb:bI W B A n bs)(hB:B<=W.heap.size)(hc:n<=c)(hm:c<=9223372036854775807)(h0:fW bs=0) :
  Calls Tryz.prog 98 #[.slice A n c] W λe w'=>e = .returned (okV bs)/\Below W.heap.size W w':=by
 have HC:=hid (cL A n c bs B W hb hB hc hm)
 have h8:=Ss.K7 h0
 rw[hb.len]at h8
 rw[h0]at HC
 obtain⟨b,off,rfl,hlt,hcell⟩:=hb.at_ zo
 have c0:W.cell? ⟨b,off,none⟩=_:=hcell 0 zo
 have c4:=hcell 4 zo
 have c5:=hcell 5 zo
 have y0:=dB bs 0
 have y4:=dB bs 4
 have y5:=dB bs 5
 have HW:Hid (bits .or .u16 ((aJ bs 4:Int)*256) (aJ bs 5:Int)=(word bs 4:Int)):=yZ _ _ y4 y5
 clear hb h0 hcell
 go_in
 go_wp2_with fail
 refine HC.out.mono ?_
 rintro e w1 ⟨rfl,rfl⟩
 clear HC
 go_wp2_with fail
 go_quiet (fail)
 go_wp2_with fail
 exact bodyPost_ret (v:=okV bs) (by simp[results,Tryz.results98,go_sem,HW.out]) rfl ⟨rfl,below_drewN' (Below.refl _ _) _⟩
theorem b8(A:Option Addr)(n c:Nat)(bs:List UInt8)(B:Nat)(W:World)(hb:bI W B A n bs)(hB:B<=W.heap.size)(hc:n<=c)(hm:c<=9223372036854775807) :
  Calls Tryz.prog 98 #[.slice A n c] W λe w'=>e = .returned (pV (fW bs) bs)/\Below W.heap.size W w':=by
 by_cases h0:fW bs=0
 ·rw[sO bs h0];exact kQ A n c bs B W hb hB hc hm h0
 ·rw[mP bs h0];exact fB A n c bs B W hb hB hc hm h0
end Ic
end Go.Proofs.YtbhnbcadgmagpaaGreatDoor
