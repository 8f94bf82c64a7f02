import Derived.Test.YtbhnbcadgmagpaaGreatDoorBig
import Derived.Test.YtbhnbcadgmagpaaGreatDoorJ22
import Derived.Test.YtbhnbcadgmagpaaGreatDoorJ1
set_option linter.unusedVariables false
set_option linter.unusedSimpArgs false
set_option maxHeartbeats 2000000
set_option maxRecDepth 100000
namespace Go.Proofs.YtbhnbcadgmagpaaGreatDoor
open Go.aN
namespace GD
open iC (add tot norm lG lay cV)
open ov (word j7 jz aU nT)
open oa (N' Dt lH)
def Br(sr ds:Nat)(bs:List UInt8):Nat:=add (Dt 17 sr ds bs.length) bs
theorem yV(sr ds:Nat)(bs:List UInt8):Br sr ds bs<=65535:=cV _ _
def fP(sr ds:Nat)(bs:List UInt8):Nat :=
 if bs.length<8 then 4 else if word bs 4<8 then 6 else if bs.length<word bs 4 then 4
 else if word bs 6=0 then 0 else if Br sr ds (bs.take (word bs 4))=65535 then 0 else 7
theorem K6{sr ds:Nat}{bs:List UInt8}(h:fP sr ds bs=0):8<=bs.length:=by
 unfold fP at h;split at h
 ·cases h
 ·omega
def two(l:List UInt8)(a v:Nat):List UInt8:=(l.set a (UInt8.ofNat (v / 256))).set (a+1) (UInt8.ofNat v)
section
variable (K sr ds fr ZE:Nat)(x y:List UInt8)
end
end GD
end Go.Proofs.YtbhnbcadgmagpaaGreatDoor
namespace Go.Proofs.YtbhnbcadgmagpaaGreatDoor
open Go.ChangeShapes Go.WideShapes Go.ChangeAt Go.RowKit Go.aN
namespace Ud
open oa (N' Dt lH)
open GD (Br yV fP two)
open iC (add cV)
open ov (word aU j7 jz)
open Ip (ax mN Row M6 dy fS jZ)
theorem yZ(a b:Nat)(ha:a<256)(hb:b<256):bits .or .u16 ((a:Int)*256) (b:Int)=((a*256+b:Nat):Int):=by
 have e:(a:Int)*256=((a*256:Nat):Int):=zo;rw[e];show IntKind.u16.wrap ((BitVec.ofInt 16 ((a*256:Nat):Int) ||| BitVec.ofInt 16 (b:Int)).toNat:Int)=_;rw[BitVec.ofInt_natCast,BitVec.ofInt_natCast,BitVec.toNat_or,BitVec.toNat_ofNat,BitVec.toNat_ofNat,Nat.mod_eq_of_lt zo,Nat.mod_eq_of_lt zo];have h:=Nat.shiftLeft_add_eq_or_of_lt (i:=8) (by omega:b<2 ^ 8) a;rw[Nat.shiftLeft_eq,show 2 ^ 8=256 from rfl]at h;rw[← h];simp[IntKind.wrap,IntKind.bits,IntKind.signed];omega
theorem Ll(A:Option Addr)(n c:Nat)(bs:List UInt8)(B:Nat)(a:Nat)(W:World)(hb:bI W B A n bs)(hc:n<=c)(hm:c<=9223372036854775807)(h2:a+2<=n) :
  Calls Tryz.prog 139 #[.slice A n c,.int .i64 (a:Int)] W λe w'=>e = .returned (.int .u16 (word bs a:Int))/\∃k,w'=W.drewN k:=by
 obtain⟨b,off,rfl,hlt,hcell⟩:=hb.at_ zo
 have c0:=hcell a zo
 have c1:=hcell (a+1) zo
 have y0:=dB bs a
 have y1:=dB bs (a+1)
 have HF:Hid (bits .or .u16 ((aJ bs a:Int)*256) (aJ bs (a+1):Int)=(word bs a:Int)):=yZ _ _ y0 y1
 have i0:(a:Int)<n:=zo
 have i1:(a:Int)+1<n:=zo
 have i2:a<n:=zo
 clear hb hcell
 go_in
 go_wp2
 go_quiet (fail)
 go_wp2
 go_ret
 exact⟨ax (by rw[← HF.out]),_,rfl⟩
theorem qq(A:Option Addr)(n c:Nat)(bs:List UInt8)(B:Nat)(a:Int)(W:World)(hb:bI W B A n bs)(hc:n<=c)(hm:c<=9223372036854775807)(h0:0<=a)(h3:a+2<=n) :
  Calls Tryz.prog 139 #[.slice A n c,.int .i64 a] W λe w'=>e = .returned (.int .u16 (word bs a.toNat:Int))/\∃k,w'=W.drewN k:=by
 obtain⟨a,rfl⟩:=Int.eq_ofNat_of_zero_le h0
 exact Ll A n c bs B a W hb hc hm zo
theorem rM(sr ds:Nat)(A:Option Addr)(n c:Nat)(bs:List UInt8)(B:Nat)(W:World)(hb:bI W B A n bs)(hB:B<=W.heap.size)(hc:n<=c)(hm:c<=9223372036854775807)(uQ:sr<4294967296)(hds:ds<4294967296) :
  Calls Tryz.prog 191 #[.int .u32 (sr:Int),.int .u32 (ds:Int),.slice A n c] W λe w'=>e = .returned (.int .u16 (Br sr ds bs:Int))/\Below W.heap.size W w':=by
 have HT:Hid (add (Dt 17 sr ds n) bs=Br sr ds bs):=by show _=_;rw[← hb.len];rfl
 have HB:=Lib.hid hb
 clear hb
 go_in
 go_wp2_with fail
 refine(Tc.uP 17 sr ds (n:Int) n zo uQ hds zo (Tc.BC n zo) W).mono ?_
 rintro e w1 ⟨rfl,aK⟩
 have dF:=Lib.hid (HB.out.below (aK.mono hB))
 have BD:=Lib.hid aK
 have hp:=lH 17 sr ds n
 clear aK
 go_wp2_with fail
 refine(Sm.qp (Dt 17 sr ds n) A n c bs w1 B dF.out hp hc hm).mono ?_
 rintro e w' ⟨rfl,rfl⟩
 go_wp2_with fail
 go_ret
 exact⟨ax (by rw[HT.out]),BD.out⟩
end Ud
end Go.Proofs.YtbhnbcadgmagpaaGreatDoor
namespace Go.Proofs.YtbhnbcadgmagpaaGreatDoor
open Go.Lib (hid)
open Go.ChangeShapes Go.WideShapes Go.ChangeAt Go.RowKit Go.aN
namespace Ud
open oa (N' Dt lH)
open GD (Br yV fP two)
open iC (add cV)
open ov (word aU j7 jz)
open Ip (ax mN Row M6 dy fS jZ)
theorem cL(sr ds:Nat)(A:Option Addr)(n c:Nat)(bs:List UInt8)(B:Nat)(W:World)(hb:bI W B A n bs)(hB:B<=W.heap.size)(hc:n<=c)(hm:c<=9223372036854775807)(uQ:sr<4294967296)(hds:ds<4294967296) :
  Calls Tryz.prog 138 #[.int .u32 (sr:Int),.int .u32 (ds:Int),.slice A n c] W λe w'=>e = .returned (.int .i64 (fP sr ds bs:Int))/\Below W.heap.size W w':=by
 have hl:=hb.len
 by_cases h8:n<8
 ·have HF:Hid (fP sr ds bs=4):=by show _=_;unfold fP;rw[if_pos zo]
  clear hb hl;go_in;go_wp2_with fail;go_ret;exact⟨ax (by rw[HF.out];rfl),Below.refl _ _⟩
 ·obtain⟨b,off,rfl,hlt,hcell⟩:=hb.at_ zo;have HB:=hid hb;have HL:=hid hl;have QY:=hid (λW (hb:bI W B (some ⟨b,off,none⟩) n bs)=>qq (some ⟨b,off,none⟩) n c bs B 4 W hb hc hm zo zo);have Tm:=hid (λW (hb:bI W B (some ⟨b,off,none⟩) n bs)=>qq (some ⟨b,off,none⟩) n c bs B 6 W hb hc hm zo zo);have v4:=aU bs 4;have v6:=aU bs 6
  have HE:Hid (fP sr ds bs=if word bs 4<8 then 6 else if n<word bs 4 then 4 else if word bs 6=0 then 0 else if Br sr ds (bs.take (word bs 4))=65535 then 0 else 7):=by
   show _=_;unfold fP;rw[if_neg zo,hl]
  have HT:=hid (λW (hb:bI W B (some ⟨b,off,none⟩) n bs) (hB:B<=W.heap.size) (hk:word bs 4<=n)=>rM sr ds (some ⟨b,off,none⟩) (word bs 4) c (bs.take (word bs 4)) B W (hb.front _ hk) hB zo hm uQ hds);have htl:=yV sr ds (bs.take (word bs 4));clear hb hl hcell;have e4:word bs (4:Int).toNat=word bs 4:=rfl;have e6:word bs (6:Int).toNat=word bs 6:=rfl;rw[e4]at QY;rw[e6]at Tm;generalize Br sr ds (bs.take (word bs 4))=t at HE HT htl;generalize word bs 4=v at QY v4 HE HT;generalize word bs 6=u at Tm v6 HE;by_cases h5:v<8
  ·have HF:Hid (fP sr ds bs=6):=by show _=_;rw[HE.out,if_pos h5]
   go_in;go_wp2_with fail;refine(QY.out _ HB.out).mono ?_;rintro e w1 ⟨rfl,k,rfl⟩;go_wp2_with fail;go_ret;exact⟨ax (by rw[HF.out];rfl),below_drewN' (Below.refl _ _) _⟩
  ·by_cases h6:n<v
   ·have HF:Hid (fP sr ds bs=4):=by show _=_;rw[HE.out,if_neg h5,if_pos h6]
    go_in;go_wp2_with fail;refine(QY.out _ HB.out).mono ?_;rintro e w1 ⟨rfl,k,rfl⟩;go_wp2_with fail;go_ret;exact⟨ax (by rw[HF.out];rfl),below_drewN' (Below.refl _ _) _⟩
   ·by_cases h7:u=0
    ·have HF:Hid (fP sr ds bs=0):=by show _=_;rw[HE.out,if_neg h5,if_neg h6,if_pos h7]
     subst h7;go_in;go_wp2_with fail;refine(QY.out _ HB.out).mono ?_;rintro e w1 ⟨rfl,k,rfl⟩;go_wp2_with fail;refine(Tm.out _ (HB.out.drewN _)).mono ?_;rintro e w1 ⟨rfl,k2,rfl⟩;go_wp2_with fail;go_ret;exact⟨ax (by rw[HF.out];rfl),below_drewN' (Below.refl _ _) _⟩
    ·have d6:((u:Int)!=0)=true:=zt
     have EK:Hid (fP sr ds bs=if t=65535 then 0 else 7):=by show _=_;rw[HE.out,if_neg h5,if_neg h6,if_neg h7]
     clear HE;go_in;go_wp2_with fail;refine(QY.out _ HB.out).mono ?_;rintro e w1 ⟨rfl,k,rfl⟩;go_wp2_with fail;refine(Tm.out _ (HB.out.drewN _)).mono ?_;rintro e w1 ⟨rfl,k2,rfl⟩;go_wp2_with fail;refine(HT.out _ (HB.out.drewN _) hB zo).mono ?_;rintro e w3 ⟨rfl,eP⟩;have Yf:=hid ((below_drewN' (Below.refl _ W) (k+k2)).trans eP);clear eP HT QY Tm;by_cases h9:t=65535
     ·have d7:((t:Int)!=65535)=false:=zt
      have HF:Hid (fP sr ds bs=0):=by show _=_;rw[EK.out,if_pos h9]
      clear h9 EK;go_wp2_with fail;go_ret;exact⟨ax (by rw[HF.out];rfl),Yf.out⟩
     ·have d7:((t:Int)!=65535)=true:=zt
      have HF:Hid (fP sr ds bs=7):=by show _=_;rw[EK.out,if_neg h9]
      clear h9 EK;go_wp2_with fail;go_ret;exact⟨ax (by rw[HF.out];rfl),Yf.out⟩
abbrev gU(e:Nat):Value:=.tuple #[.int .u16 0,.int .u16 0,.int .i64 (e:Int)]
abbrev okV(bs:List UInt8):Value:=.tuple #[.int .u16 (word bs 0:Int),.int .u16 (word bs 2:Int),.int .i64 0]
def pV(e:Nat)(bs:List UInt8):Value:=if e=0 then okV bs else gU e
theorem sO{e:Nat}(bs:List UInt8)(h:e=0):pV e bs=okV bs:=by unfold pV;rw[if_pos h]
theorem mP{e:Nat}(bs:List UInt8)(h:e≠0):pV e bs=gU e:=by unfold pV;rw[if_neg h]
theorem fB(sr ds:Nat)(A:Option Addr)(n c:Nat)(bs:List UInt8)(B:Nat)(W:World)(hb:bI W B A n bs)(hB:B<=W.heap.size)(hc:n<=c)(hm:c<=9223372036854775807)(uQ:sr<4294967296)(hds:ds<4294967296)(h0:fP sr ds bs≠0) :
  Calls Tryz.prog 97 #[.int .u32 (sr:Int),.int .u32 (ds:Int),.slice A n c] W λe w'=>e = .returned (gU (fP sr ds bs))/\Below W.heap.size W w':=by
 have HC:=hid (cL sr ds A n c bs B W hb hB hc hm uQ hds)
 have d:((fP sr ds bs:Int)!=0)=true:=zt
 generalize fP sr ds bs=er at HC d
 clear hb h0
 go_in
 go_wp2_with fail
 refine HC.out.mono ?_
 rintro e w1 ⟨rfl,aK⟩
 have BD:=hid aK
 clear aK
 go_wp2_with fail
 exact bodyPost_ret (v:=gU er) (by simp[results,Tryz.results97,go_sem]) rfl ⟨rfl,BD.out⟩
theorem kQ(sr ds:Nat)(A:Option Addr)(n c:Nat)(bs:List UInt8)(B:Nat)(W:World)(hb:bI W B A n bs)(hB:B<=W.heap.size)(hc:n<=c)(hm:c<=9223372036854775807)(uQ:sr<4294967296)(hds:ds<4294967296)(h0:fP sr ds bs=0) :
  Calls Tryz.prog 97 #[.int .u32 (sr:Int),.int .u32 (ds:Int),.slice A n c] W λe w'=>e = .returned (okV bs)/\Below W.heap.size W w':=by
 have HC:=hid (cL sr ds A n c bs B W hb hB hc hm uQ hds)
 have h8:=GD.K6 h0
 rw[hb.len]at h8
 rw[h0]at HC
 have HB:=hid hb
 have w0:=aU bs 0
 have w2:=aU bs 2
 clear hb h0
 go_in
 go_wp2_with fail
 refine HC.out.mono ?_
 rintro e w1 ⟨rfl,aK⟩
 have BD:=hid aK
 have dF:=hid (HB.out.below (aK.mono hB))
 clear aK HC
 go_wp2_with fail
 refine(qq A n c bs B 0 w1 dF.out hc hm zo zo).mono ?_
 rintro e w' ⟨rfl,k,rfl⟩
 go_wp2_with fail
 refine(qq A n c bs B 2 _ (dF.out.drewN k) hc hm zo zo).mono ?_
 rintro e w' ⟨rfl,k2,rfl⟩
 go_wp2_with fail
 exact bodyPost_ret (v:=okV bs) (by simp[results,Tryz.results97,go_sem]) rfl ⟨rfl,below_drewN' BD.out _⟩
theorem b8(sr ds:Nat)(A:Option Addr)(n c:Nat)(bs:List UInt8)(B:Nat)(W:World)(hb:bI W B A n bs)(hB:B<=W.heap.size)(hc:n<=c)(hm:c<=9223372036854775807)(uQ:sr<4294967296)(hds:ds<4294967296) :
  Calls Tryz.prog 97 #[.int .u32 (sr:Int),.int .u32 (ds:Int),.slice A n c] W λe w'=>e = .returned (pV (fP sr ds bs) bs)/\Below W.heap.size W w':=by
 by_cases h0:fP sr ds bs=0
 ·rw[sO bs h0];exact kQ sr ds A n c bs B W hb hB hc hm uQ hds h0
 ·rw[mP bs h0];exact fB sr ds A n c bs B W hb hB hc hm uQ hds h0
end Ud
end Go.Proofs.YtbhnbcadgmagpaaGreatDoor
