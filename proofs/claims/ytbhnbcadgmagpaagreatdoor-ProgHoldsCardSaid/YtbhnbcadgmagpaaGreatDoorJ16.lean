import Derived.Test.YtbhnbcadgmagpaaGreatDoorBig
import Derived.Test.YtbhnbcadgmagpaaGreatDoorJ1
import Derived.Test.YtbhnbcadgmagpaaGreatDoorJ12
import Derived.Test.YtbhnbcadgmagpaaGreatDoorJ14
import Derived.Test.YtbhnbcadgmagpaaGreatDoorJ6
import Derived.Test.YtbhnbcadgmagpaaGreatDoorJ7
import Derived.Test.YtbhnbcadgmagpaaGreatDoorJ15
import Derived.Test.YtbhnbcadgmagpaaGreatDoorJ3
import Derived.Test.YtbhnbcadgmagpaaGreatDoorJ9
set_option linter.unusedVariables false
set_option linter.unusedSimpArgs false
set_option maxHeartbeats 2000000
set_option maxRecDepth 100000
namespace Go.Proofs.YtbhnbcadgmagpaaGreatDoor
namespace Pg
open bg (Ms af bq ay aP ag L4 aH aq ai bD)
open aE (R)
open iw (K fst j3)
open ak (Ke)
open Tb (gZ eR upd)
structure Pt where
 kd:Int
 t:Int
 op:Int
 k:Ke
 v:Int
 n:Int
def k0:Ke:=⟨0,0,0,0,0⟩
def p0:Pt:=⟨0,0,0,k0,0,0⟩
structure Cf where
 n:Nat
 N:Int
 T:Nat->Int
structure Sh where
 ms:Ms
 fs:List bJ.Fl
 rl:Int->List R
 pts:List Pt
inductive At
 | find | release | load | judge | advance | sure | look | again | over | kill | less | leave | absent | enter | unlock
 | malformed | count | add | readClock | tick | claim | prepare | publish | disclaim | stat | take | visit | inspect | finish | endOp | done
 deriving DecidableEq
structure Rn where
 t:Int
 op:Int
 at_:At
 mu:Int
 ki:Bool
 en:Bool
 e:Int
 v:Int
 n:Int
 z:Int
 li:List R
 p:K
 dn:Bool
 q:Nat
 st:Nat
 ks:List Ke
 k:Ke
 x:Int
 tu:Bool
 tn:Int
 mr:Nat
 wf:Int
 wg:Int
 wc:Int
def cG(x:Int):Int:=x % 1099511627776
def kG(x:Int):Int:=x / 1099511627776 % 4096
def vG(x:Int):Int:=x / 4503599627370496
def cF(x:Int):Int:=x % 1099511627776
def nF(x:Int):Int:=x / 1099511627776 % 1048576
def sF(x:Int):Int:=x / 1152921504606846976
def g_(x:Int):Prop:=0<=x/\x<=18446744073709551615
theorem l8{x:Int}(h:g_ x):dJ.Fit (cG x) (kG x) (vG x):=by
 obtain⟨_,_⟩:=h;unfold cG kG vG;exact⟨by omega,by omega,by omega,by omega,by omega,by omega⟩
theorem PB{x:Int}(h:g_ x):x=dJ.gI (cG x) (kG x) (vG x):=by
 obtain⟨_,_⟩:=h;unfold cG kG vG dJ.gI;omega
theorem Gm{x:Int}(h:g_ x):eL.Fit (cF x) (nF x) (sF x):=by
 obtain⟨_,_⟩:=h;unfold cF nF sF;exact⟨by omega,by omega,by omega,by omega,by omega,by omega⟩
theorem VB{x:Int}(h:g_ x):x=eL.gI (cF x) (nF x) (sF x):=by
 obtain⟨_,_⟩:=h;unfold cF nF sF eL.gI;omega
theorem wG{c k v:Int}(h:dJ.Fit c k v):g_ (dJ.gI c k v)/\cG (dJ.gI c k v)=c/\kG (dJ.gI c k v)=k/\vG (dJ.gI c k v)=v:=by
 obtain⟨_,_,_,_,_,_⟩:=h;unfold g_ cG kG vG dJ.gI;omega
theorem wF{c k v:Int}(h:eL.Fit c k v):g_ (eL.gI c k v)/\cF (eL.gI c k v)=c/\nF (eL.gI c k v)=k/\sF (eL.gI c k v)=v:=by
 obtain⟨_,_,_,_,_,_⟩:=h;unfold g_ cF nF sF eL.gI;omega
def js(x n:Int):Int:=dJ.gI (Ga.later (cG x) n) (kG x) (vG x)
def jt(N x:Int):Bool:=decide (¬N<=kG x/\kG x≠4095)
def cj(N x:Int):Int:=if jt N x then dJ.gI (cG x) (kG x+1) (vG x)else x
def cS(x:Int):Int:=if kG x=0 then x else dJ.gI (cG x) (kG x - 1) (vG x)
def cJ(x:Int):Int:=if vG x=4095 then x else dJ.gI (cG x) (kG x) (vG x+1)
def dW(x:Int):Int:=if vG x=4095 then vG x else vG x+1
def kF(x s u:Int):Int:=eL.gI (Fl.clip u) (Fl.up (nF x)) (s % 16)
def PD(x c:Int):Bool:=Fl.kE (cF x) (nF x) (sF x) c
def gl:Int:=eL.gI 0 0 15
theorem Kn{x:Int}(h:g_ x)(s u:Int):eL.Fit (Fl.clip u) (Fl.up (nF x)) (s % 16):=by
 have:=Gm h;obtain⟨_,_,_,_,_,_⟩:=this;unfold Fl.clip Fl.up
 refine⟨?_,?_,?_,?_,by omega,by omega⟩ <;> (repeat' split) <;> omega
theorem yI{x:Int}(h:g_ x)(s u:Int):g_ (kF x s u):=(wF (Kn h s u)).1
theorem uy{x:Int}(h:g_ x)(n:Int):dJ.Fit (Ga.later (cG x) n) (kG x) (vG x):=by
 have h1:=l8 h;have h2:=Ga.rf (n:=n) h1;obtain⟨_,_,_,_,_,_⟩:=h1;exact⟨by omega,by omega,by omega,by omega,by omega,by omega⟩
theorem Dg{x:Int}(h:g_ x)(n:Int):g_ (js x n):=(wG (uy h n)).1
theorem xy{x:Int}(h:g_ x){N:Int}(hb:jt N x=true):dJ.Fit (cG x) (kG x+1) (vG x):=by
 have h1:=l8 h;obtain⟨_,_,_,_,_,_⟩:=h1;have:=of_decide_eq_true hb;exact⟨by omega,by omega,by omega,by omega,by omega,by omega⟩
theorem yJ{x:Int}(h:g_ x)(N:Int):g_ (cj N x):=by
 unfold cj;split
 ·rename_i hb;exact(wG (xy h hb)).1
 ·exact h
theorem xA{x:Int}(h:g_ x)(hb:kG x≠0):dJ.Fit (cG x) (kG x - 1) (vG x):=by
 have h1:=l8 h;obtain⟨_,_,_,_,_,_⟩:=h1;exact⟨by omega,by omega,by omega,by omega,by omega,by omega⟩
theorem yK{x:Int}(h:g_ x):g_ (cS x):=by
 unfold cS;split
 ·exact h
 ·rename_i hb;exact(wG (xA h hb)).1
theorem uz{x:Int}(h:g_ x)(hb:vG x≠4095):dJ.Fit (cG x) (kG x) (vG x+1):=by
 have h1:=l8 h;obtain⟨_,_,_,_,_,_⟩:=h1;exact⟨by omega,by omega,by omega,by omega,by omega,by omega⟩
theorem yL{x:Int}(h:g_ x):g_ (cJ x):=by
 unfold cJ;split
 ·exact h
 ·rename_i hb;exact(wG (uz h hb)).1
theorem Ko:g_ gl:=by unfold g_ gl eL.gI;omega
def say(S:Sh)(r:Rn)(kd:Int)(k:Ke)(v n:Int):Sh:={ S with pts:=S.pts++[⟨kd,r.t,r.op,k,v,n⟩] }
def jJ(S:Sh)(r:Rn):Sh×Rn:=(say S r 8 k0 r.v r.n,{ r with at_:=.done,en:=true })
def goto(r:Rn)(a:At):Rn:={ r with at_:=a }
def j4(r:Rn)(m:Int)(a:At):Rn:={ r with at_:=a,mu:=m }
def eE(S:Sh)(r:Rn):Sh×Rn:=jJ (say S r 3 k0 r.v 0) r
def gX(S:Sh)(r:Rn)(i:Int):Sh:={ S with ms:=bq S.ms r.t i }
def dK(S:Sh)(r:Rn):Rn:={ r with wg:=af S.ms 0 }
def CB(S:Sh)(r:Rn):Rn:={ r with wf:=af S.ms r.x }
def PE(S:Sh)(r:Rn):Rn:={ r with wc:=af S.ms r.v }
def fG(S:Sh)(r:Rn)(i old now:Int):Sh:={ S with ms:=aP S.ms r.t i old now }
def eA(r:Rn):Bool:=PD r.wf (cG r.wg)
def dP(S:Sh)(r:Rn):Sh×Rn :=
 if af S.ms r.v=18446744073709551615 then eE (gX S r r.v) (PE S r)else(gX S r r.v,goto (PE S r) .add)
def rq(S:Sh)(r:Rn):Sh×Rn :=
 if ay S.ms r.v r.wc then eE (fG S r r.v r.wc ((r.wc+1) % 18446744073709551616)) r else(fG S r r.v r.wc ((r.wc+1) % 18446744073709551616),goto r .count)
def hasB(C:Cf)(S:Sh)(r:Rn):Bool:=eR S.ms r.t ((gZ C.n r.k:Nat):Int)
def mB(C:Cf)(S:Sh)(r:Rn):Option bJ.Fl:=if hasB C S r then bJ.find r.k S.fs else none
def n8(C:Cf)(S:Sh)(r:Rn)(kd:Int):Sh:=if hasB C S r then { S with ms:=ai S.ms r.t kd ((gZ C.n r.k:Nat):Int) }else S
def dw(C:Cf)(S:Sh)(r:Rn):Rn:=match mB C S r with
 | some f=>{ r with x:=f.x,tu:=f.dn }
 | none=>{ r with x:=0,tu:=false }
def uA(C:Cf)(S:Sh)(r:Rn):Sh:=if hasB C S r then { S with ms:=ai S.ms r.t 6 ((gZ C.n r.k:Nat):Int),fs:=bJ.drop r.k S.fs }else S
def ry(C:Cf)(S:Sh)(r:Rn)(x:Int):Sh:=if hasB C S r then { S with ms:=ai S.ms r.t 6 ((gZ C.n r.k:Nat):Int),fs:=upd ⟨r.k,x,r.dn⟩ S.fs }else S
def jS(C:Cf)(S:Sh)(r:Rn):Sh×Rn:=(n8 C S r 5,goto (dw C S r) (if (mB C S r).isSome then .release else .absent))
def jT(C:Cf)(S:Sh)(r:Rn):Sh×Rn:=(n8 C S r 5,goto (dw C S r) (if (mB C S r).isSome then .again else .absent))
def iy(S:Sh)(r:Rn)(m:Int):Sh:={ S with ms:=aq S.ms r.t m }
def kH(S:Sh)(r:Rn):Sh×Rn:=(iy S r r.st,goto r .load)
def jU(S:Sh)(r:Rn):Sh×Rn:=(gX S r r.x,if sF (af S.ms r.x)=15 then j4 (CB S r) r.st .find else goto (CB S r) .judge)
def MV(r:Rn):Bool:=Fs.MV (sF r.wf) (r.dn != r.tu) (r.p.pr:Int) (r.p.fl:Int) (r.p.kd:Int)
def NP(r:Rn):Int:=Fs.NP (sF r.wf) (r.dn != r.tu) (r.p.pr:Int) (r.p.fl:Int) (r.p.kd:Int)
def mC(S:Sh):Sh:={ S with pts:=S.pts++[p0] }
def fO(S:Sh)(r:Rn):Rn:={ r with mr:=S.pts.length }
def iJ(r:Rn):Rn:=if eA r then j4 r r.st .look else if MV r then { r with tn:=NP r,at_:=.advance }else goto r .sure
def gG(S:Sh)(r:Rn):Sh×Rn:=(mC (gX S r 0),iJ (fO S (dK S r)))
def xB(S:Sh)(r:Rn)(v:Int):Sh:={ S with pts:=S.pts.set r.mr ⟨2,r.t,r.op,r.k,v,0⟩ }
def eB(S:Sh)(r:Rn)(s u v:Int):Sh×Rn :=
 if ay S.ms r.x r.wf then(xB (fG S r r.x r.wf (kF r.wf s u)) r v,{ r with v:=v,at_:=.count })else(fG S r r.x r.wf (kF r.wf s u),goto r .load)
def ju(C:Cf)(r:Rn):Int:=Fs.ug C.T r.tn (cG r.wg)
def kI(C:Cf)(S:Sh)(r:Rn):Sh×Rn:=eB S r r.tn (ju C r) 1
def xC(S:Sh)(r:Rn):Sh×Rn:=eB S r (sF r.wf) (cF r.wf) 4
def rA(S:Sh)(r:Rn):Sh×Rn:=(gX S r r.x,goto (CB S r) .over)
def jV(S:Sh)(r:Rn):Sh×Rn:=(gX S r 0,goto (dK S r) (if eA (dK S r)then .kill else .release))
def jv(q:Nat):Bool:=q==4||q==6
def jw(C:Cf)(S:Sh)(r:Rn):Sh×Rn :=
 if ay S.ms r.x r.wf then(uA C (fG S r r.x r.wf gl) r,goto r .less)else(fG S r r.x r.wf gl,goto r (if jv r.q then .visit else .again))
def xD(S:Sh)(r:Rn):Sh×Rn:=(gX S r 0,goto (dK S r) .leave)
def bQ(r:Rn):Rn:=match r.ks with
 | []=>goto r .finish
 | k::ks=>{ r with k:=k,ks:=ks,at_:=.visit }
def kJ(r:Rn):Rn:=if jv r.q then bQ { r with n:=IntKind.i64.wrap (r.n+1) }else goto r .absent
def fb(S:Sh)(r:Rn):Sh×Rn :=
 if ay S.ms 0 r.wg then(say (fG S r 0 r.wg (cS r.wg)) r 4 r.k 0 (if r.q=4 then 1 else 0),kJ r)else(fG S r 0 r.wg (cS r.wg),goto r .less)
def J9(r:Rn):Bool:=Fs.J9 (r.p.pr:Int) (r.p.fl:Int) (r.p.kd:Int)
def Ge(r:Rn):Int:=Fs.Ge (r.p.pr:Int) (r.p.fl:Int) (r.p.kd:Int)
def cU(C:Cf)(r:Rn)(l:List R):Int:=if j3 l (fst r.p l)=false then 3 else if J9 r=false then 4 else if jt C.N r.wg=false then 5 else 1
def lE(S:Sh)(r:Rn)(v:Int):Sh×Rn:=(say S r 2 r.k v 0,{ r with v:=v,at_:=.unlock })
def uB(C:Cf)(S:Sh)(r:Rn):Sh:={ S with ms:=ai S.ms r.t 5 ((C.n:Int)+vG r.wg) }
def nN(C:Cf)(S:Sh)(r:Rn):Sh×Rn :=
 if cU C r (S.rl (vG r.wg))=1 then(uB C S r,{ r with tn:=Ge r,at_:=.enter })else lE (uB C S r) r (cU C r (S.rl (vG r.wg)))
def fq(C:Cf)(S:Sh)(r:Rn):Sh×Rn:=nN C (gX S r 0) (dK S r)
def uC(S:Sh)(x:Int):Sh:={ S with ms:=bD S.ms x }
def h_(C:Cf)(S:Sh)(r:Rn):Sh×Rn :=
 if ay S.ms 0 r.wg then
  lE (ry C (uC (fG S r 0 r.wg (cj C.N r.wg)) (kF 0 r.tn (ju C r))) r ((fG S r 0 r.wg (cj C.N r.wg)).ms.ws.length:Int)) r 1
 else(fG S r 0 r.wg (cj C.N r.wg),goto r .absent)
def nO(S:Sh)(r:Rn):Sh×Rn:=(iy S r r.st,goto r .count)
def ia(S:Sh)(r:Rn):Sh×Rn:=dP (say S r 2 k0 2 0) { r with v:=2 }
def fT(S:Sh)(r:Rn):Sh×Rn:=(gX S r 0,goto (dK S r) .tick)
def jW(S:Sh)(r:Rn):Sh×Rn :=
 if ay S.ms 0 r.wg then jJ (say (fG S r 0 r.wg (js r.wg r.z)) r 5 k0 0 r.z) { r with n:=Ga.later (cG r.wg) r.z }else(fG S r 0 r.wg (js r.wg r.z),goto r .readClock)
def rB(S:Sh)(r:Rn):Sh×Rn:=(S,goto r .prepare)
def ic(rl:Int->List R)(i:Int)(l:List R):Int->List R:=λj=>if j=i then l else rl j
def yM(C:Cf)(S:Sh)(r:Rn):Sh:={ S with ms:=ai S.ms r.t 6 ((C.n:Int)+(vG r.wg+1)),rl:=ic S.rl (vG r.wg+1) r.li }
def kK(C:Cf)(S:Sh)(r:Rn):Sh×Rn:=if vG r.wg=4095 then(S,{ r with e:=2,at_:=.disclaim })else(yM C S r,goto r .publish)
def dQ(C:Cf)(S:Sh)(r:Rn):Sh×Rn:=kK C (gX S r 0) (dK S r)
def dR(S:Sh)(r:Rn):Sh×Rn :=
 if ay S.ms 0 r.wg then
  (say { fG S r 0 r.wg (cJ r.wg)with rl:=ic S.rl (dW r.wg - 1) [] } r 6 k0 0 (dW r.wg),{ r with n:=dW r.wg,at_:=.disclaim })
 else(fG S r 0 r.wg (cJ r.wg),goto r .prepare)
def jd(C:Cf)(S:Sh)(r:Rn):Sh×Rn:=jJ (iy S r C.n) r
def sJ(S:Sh)(r:Rn):Sh×Rn :=
 jJ (say (gX S r r.z) r 7 k0 r.z (IntKind.i64.wrap (af S.ms r.z))) { r with n:=IntKind.i64.wrap (af S.ms r.z) }
def iR(C:Cf)(S:Sh)(r:Rn):List Ke:=if r.st<C.n/\eR S.ms r.t (r.st:Int)=true then(Tb.part C.n r.st S.fs).map (·.k)else[]
def kL(C:Cf)(S:Sh)(r:Rn):Sh:=if r.st<C.n/\eR S.ms r.t (r.st:Int)=true then { S with ms:=ai S.ms r.t 5 (r.st:Int) }else S
def sK(C:Cf)(S:Sh)(r:Rn):Sh×Rn:=(kL C S r,bQ { r with ks:=iR C S r })
def gH(C:Cf)(S:Sh)(r:Rn):Sh×Rn :=
 (gX (n8 C S r 5) (dw C S r) (dw C S r).x,goto (CB (n8 C S r 5) (dw C S r)) (if r.q=4 then .kill else .inspect))
def dx(S:Sh)(r:Rn):Sh×Rn:=(gX S r 0,if eA (dK S r)then goto (dK S r) .kill else bQ (dK S r))
def fu(C:Cf)(S:Sh)(r:Rn):Sh×Rn :=
 if r.st+1=C.n then jJ (iy S r r.st) { r with st:=r.st+1 }else(iy S r r.st,j4 { r with st:=r.st+1 } ((r.st+1:Nat):Int) .take)
def aY(C:Cf)(S:Sh)(r:Rn):Sh×Rn:=match r.at_ with
 | .find=>jS C S r
 | .release=>kH S r
 | .load=>jU S r
 | .judge=>gG S r
 | .advance=>kI C S r
 | .sure=>xC S r
 | .look=>jT C S r
 | .again=>rA S r
 | .over=>jV S r
 | .kill=>jw C S r
 | .less=>xD S r
 | .leave=>fb S r
 | .absent=>fq C S r
 | .enter=>h_ C S r
 | .unlock=>nO S r
 | .malformed=>ia S r
 | .count=>dP S r
 | .add=>rq S r
 | .readClock=>fT S r
 | .tick=>jW S r
 | .claim=>rB S r
 | .prepare=>dQ C S r
 | .publish=>dR S r
 | .disclaim=>jd C S r
 | .stat=>sJ S r
 | .take=>sK C S r
 | .visit=>gH C S r
 | .inspect=>dx S r
 | .finish=>fu C S r
 | .endOp=>jJ S r
 | .done=>(S,r)
def mD(S:Sh)(r:Rn):Bool:=decide (r.at_ ≠ .done)&&(r.mu == -1||L4 S.ms r.t r.mu)
def dS(S:Sh)(r:Rn):Bool:=decide (r.at_ ≠ .done) && !(ag S.ms r.mu == -1)
def aM(S:Sh)(r:Rn):Sh:=if r.mu=-1 then S else { S with ms:=aH S.ms r.t r.mu }
def bB(S:Sh)(r:Rn):Sh:=if r.ki then S else say S r 1 k0 0 0
def Lf(C:Cf)(S:Sh)(r:Rn):Sh×Rn:=if mD S r then aY C (bB (aM S r) r) { r with mu:=-1,ki:=true }else(S,r)
def r0(t op:Int):Rn:=⟨t,op,.endOp,-1,false,false,0,0,0,0,[],⟨0,0,0,0,0,0,0⟩,false,0,0,[],k0,0,false,0,0,0,0,0⟩
structure Fit(C:Cf)(S:Sh)(r:Rn):Prop where
 wf:g_ r.wf
 wg:g_ r.wg
 wc:g_ r.wc
 k:r.k.Ok
 p:r.p.Ok
 st:r.st<=C.n
 cn:C.n<=4096
 cT:∀i,-9223372036854775808<=C.T i/\C.T i<=9223372036854775807
 z : -9223372036854775808<=r.z/\r.z<=9223372036854775807
 mr:r.at_ = .advance\/r.at_ = .sure->r.mr<S.pts.length
 q:r.at_ = .kill\/r.at_ = .less\/r.at_ = .leave->r.q=1\/jv r.q=true
 tt:0<=r.t/\r.t<=9223372036854775807
structure Rm(n:Nat)(S:Sh):Prop where
 l:S.ms.ls.length+n<=1000000000000
 f:S.fs.length+n<=100000
 p:S.pts.length+n<=900000000000
 w:S.ms.ws.length+n<1000000000000
theorem nP(s:Ms)(t k p:Int):(bg.say s t k p).ls.length=s.ls.length+1/\(bg.say s t k p).ws=s.ws:=by unfold bg.say;simp
theorem Bh(s:Ms)(t i:Int):(bq s t i).ls.length<=s.ls.length+1/\(bq s t i).ws.length=s.ws.length:=by
 unfold bq;split
 ·have:=nP s t 3 (3*i);rw[this.1,this.2];exact⟨by omega,rfl⟩
 ·exact⟨by omega,rfl⟩
theorem Bi(s:Ms)(t i o x:Int):(aP s t i o x).ls.length<=s.ls.length+1/\(aP s t i o x).ws.length=s.ws.length:=by
 unfold aP;split
 ·split
  ·have:=nP { s with ws:=s.ws.set i.toNat x } t 4 (3*i);rw[this.1,this.2];exact⟨by simp,by simp⟩
  ·have:=nP s t 3 (3*i);rw[this.1,this.2];exact⟨by omega,rfl⟩
 ·exact⟨by omega,rfl⟩
theorem uD(s:Ms)(t i:Int):(aH s t i).ls.length<=s.ls.length+1/\(aH s t i).ws.length=s.ws.length:=by
 unfold aH;split
 ·have:=nP { s with hs:=s.hs.set i.toNat t } t 1 (3*i+1);rw[this.1,this.2];exact⟨by simp,rfl⟩
 ·exact⟨by omega,rfl⟩
theorem uE(s:Ms)(t i:Int):(aq s t i).ls.length<=s.ls.length+1/\(aq s t i).ws.length=s.ws.length:=by
 unfold aq;split
 ·have:=nP { s with hs:=s.hs.set i.toNat (-1) } t 2 (3*i+1);rw[this.1,this.2];exact⟨by simp,rfl⟩
 ·exact⟨by omega,rfl⟩
theorem nQ(s:Ms)(t k i:Int):(ai s t k i).ls.length<=s.ls.length+1/\(ai s t k i).ws.length=s.ws.length:=by
 unfold ai;split
 ·have:=nP s t k (3*i+2);rw[this.1,this.2];exact⟨by omega,rfl⟩
 ·exact⟨by omega,rfl⟩
section
variable {n:Nat}{C:Cf}{S:Sh}{r:Rn}
theorem Rm.mono(h:Rm n S){m:Nat}(hm:m<=n):Rm m S:=⟨by have:=h.l;omega,by have:=h.f;omega,by have:=h.p;omega,by have:=h.w;omega⟩
theorem Rm.ld(h:Rm (n+1) S)(i:Int):Rm n (gX S r i):=by
 have:=Bh S.ms r.t i;exact⟨by have:=h.l;show(bq S.ms r.t i).ls.length+n<=_;omega,by have:=h.f;show S.fs.length+n<=_;omega,by have:=h.p;show S.pts.length+n<=_;omega,by have:=h.w;show(bq S.ms r.t i).ws.length+n<_;omega⟩
theorem Rm.sw(h:Rm (n+1) S)(i o x:Int):Rm n (fG S r i o x):=by
 have:=Bi S.ms r.t i o x;exact⟨by have:=h.l;show(aP S.ms r.t i o x).ls.length+n<=_;omega,by have:=h.f;show S.fs.length+n<=_;omega,by have:=h.p;show S.pts.length+n<=_;omega,by have:=h.w;show(aP S.ms r.t i o x).ws.length+n<_;omega⟩
theorem Rm.free(h:Rm (n+1) S)(i:Int):Rm n (iy S r i):=by
 have:=uE S.ms r.t i;exact⟨by have:=h.l;show(aq S.ms r.t i).ls.length+n<=_;omega,by have:=h.f;show S.fs.length+n<=_;omega,by have:=h.p;show S.pts.length+n<=_;omega,by have:=h.w;show(aq S.ms r.t i).ws.length+n<_;omega⟩
theorem Rm.touch(h:Rm (n+1) S)(k i:Int):Rm n { S with ms:=ai S.ms r.t k i }:=by
 have:=nQ S.ms r.t k i;exact⟨by have:=h.l;show(ai S.ms r.t k i).ls.length+n<=_;omega,by have:=h.f;show S.fs.length+n<=_;omega,by have:=h.p;show S.pts.length+n<=_;omega,by have:=h.w;show(ai S.ms r.t k i).ws.length+n<_;omega⟩
theorem Rm.to(h:Rm (n+1) S)(k:Int):Rm n (n8 C S r k):=by
 unfold n8;split
 ·exact h.touch k _
 ·exact h.mono zo
theorem Rm.rem(h:Rm (n+1) S):Rm n (uA C S r):=by
 unfold uA;split
 ·have:=nQ S.ms r.t 6 ((gZ C.n r.k:Nat):Int);have h2:=Tb.A7 r.k S.fs;exact⟨by have:=h.l;show(ai S.ms r.t 6 _).ls.length+n<=_;omega,by have:=h.f;show(bJ.drop r.k S.fs).length+n<=_;omega,by have:=h.p;show S.pts.length+n<=_;omega,by have:=h.w;show(ai S.ms r.t 6 _).ws.length+n<_;omega⟩
 ·exact h.mono zo
theorem Rm.put(h:Rm (n+1) S)(x:Int):Rm n (ry C S r x):=by
 unfold ry;split
 ·have:=nQ S.ms r.t 6 ((gZ C.n r.k:Nat):Int);have h2:=Tb.NK ⟨r.k,x,r.dn⟩ S.fs;exact⟨by have:=h.l;show(ai S.ms r.t 6 _).ls.length+n<=_;omega,by have:=h.f;show(upd ⟨r.k,x,r.dn⟩ S.fs).length+n<=_;omega,by have:=h.p;show S.pts.length+n<=_;omega,by have:=h.w;show(ai S.ms r.t 6 _).ws.length+n<_;omega⟩
 ·exact h.mono zo
theorem Rm.say(h:Rm (n+1) S)(kd:Int)(k:Ke)(v x:Int):Rm n (say S r kd k v x) :=
 ⟨by have:=h.l;show S.ms.ls.length+n<=_;omega,by have:=h.f;show S.fs.length+n<=_;omega,by have:=h.p;simp only[Pg.say,List.length_append,List.length_cons,List.length_nil];omega,by have:=h.w;show S.ms.ws.length+n<_;omega⟩
theorem Rm.mark(h:Rm (n+1) S):Rm n (mC S) :=
 ⟨by have:=h.l;show S.ms.ls.length+n<=_;omega,by have:=h.f;show S.fs.length+n<=_;omega,by have:=h.p;simp only[mC,List.length_append,List.length_cons,List.length_nil];omega,by have:=h.w;show S.ms.ws.length+n<_;omega⟩
theorem Rm.VC(h:Rm (n+1) S)(x:Int):Rm n (uC S x) :=
 ⟨by have:=h.l;show S.ms.ls.length+n<=_;omega,by have:=h.f;show S.fs.length+n<=_;omega,by have:=h.p;show S.pts.length+n<=_;omega,by have:=h.w;simp only[uC,bD,List.length_append,List.length_cons,List.length_nil];omega⟩
end
end Pg
end Go.Proofs.YtbhnbcadgmagpaaGreatDoor
namespace Go.Proofs.YtbhnbcadgmagpaaGreatDoor
open Go.ChangeShapes Go.WideShapes Go.ChangeAt Go.RowKit Go.aN Go.Lib
namespace Pg
open bg (Ms)
open aE (R)
open ak (Ke)
open Me (ptr)
open Tb (UW TM Fw)
structure Env(w:World):Prop where
 ga:Ga.Env w
 fl:Fl.Env w
theorem Env.below{w w':World}(h:Env w)(hb:Below w.heap.size w w'):Env w':=⟨h.ga.below hb zl,h.fl.below hb zl⟩
def Lv(W:World)(K:Nat->Prop)(v:Value)(l:List R):Prop:=gK W W.heap.size v l/\(0<l.length->∀g,v.ownBlock=some g->K g)/\∀r∈l,r.Ok
def rD(ks:List Ke):List Value:=ks.flatMap λk=>[.int .u32 (k.a:Int),.int .u32 (k.b:Int),.int .u16 (k.p:Int),.int .u16 (k.q:Int),.int .u8 (k.r:Int)]
def Kv(W:World)(K:Nat->Prop)(v:Value)(ks:List Ke):Prop:=(∃A c,v = .slice A ks.length c/\(ks.length<=c/\c<=9223372036854775807)/\(0<ks.length->∃g off,A=some ⟨g,off,none⟩/\K g/\g<W.heap.size/\∀j u,(rD ks)[j]? = some u->W.cell? ⟨g,off+j,none⟩=some u))/\∀k∈ks,k.Ok
section
variable {W W':World}{O K K':Nat->Prop}{v:Value}{l:List R}{ks:List Ke}
theorem Lv.nil(W:World)(K:Nat->Prop):Lv W K (.slice none 0 0) []:=⟨⟨none,0,rfl,Nat.le_refl _,Nat.zero_le _,λh=>absurd h zs⟩,λh=>absurd h zs,λr h=>absurd h List.not_mem_nil⟩
theorem Lv.only(H:Lv W K v l)(h:ar O W W')(hd:∀j,K j->¬O j):Lv W' K v l:=by
 obtain⟨⟨A,c,rfl,h1,h2,h3⟩,h4,h5⟩:=H;refine⟨⟨A,c,rfl,h1,h2,λhn=>?_⟩,h4,h5⟩;obtain⟨b,off,rfl,hb,hc⟩:=h3 hn;exact⟨b,off,rfl,Nat.lt_of_lt_of_le hb h.size,λj u hu=>(h.cell (p:=⟨b,off+j,none⟩) hb (hd _ (h4 hn b rfl))).trans (hc j u hu)⟩
theorem Lv.mono(H:Lv W K v l)(h:∀j,K j->K' j):Lv W K' v l:=⟨H.1,λhn g e=>h g (H.2.1 hn g e),H.2.2⟩
theorem Kv.nil(W:World)(K:Nat->Prop):Kv W K (.slice none 0 0) []:=⟨⟨none,0,rfl,⟨Nat.le_refl _,by omega⟩,λh=>absurd h zs⟩,λr h=>absurd h List.not_mem_nil⟩
theorem Kv.only(H:Kv W K v ks)(h:ar O W W')(hd:∀j,K j->¬O j):Kv W' K v ks:=by
 obtain⟨⟨A,c,rfl,hcb,h4⟩,h6⟩:=H;refine⟨⟨A,c,rfl,hcb,λhn=>?_⟩,h6⟩;obtain⟨b,off,rfl,hk,hb,hc⟩:=h4 hn;exact⟨b,off,rfl,hk,Nat.lt_of_lt_of_le hb h.size,λj u hu=>(h.cell (p:=⟨b,off+j,none⟩) hb (hd _ hk)).trans (hc j u hu)⟩
theorem Kv.mono(H:Kv W K v ks)(h:∀j,K j->K' j):Kv W K' v ks:=by
 obtain⟨⟨A,c,rfl,hcb,h4⟩,h6⟩:=H;refine⟨⟨A,c,rfl,hcb,λhn=>?_⟩,h6⟩;obtain⟨b,off,rfl,hk,hb,hc⟩:=h4 hn;exact⟨b,off,rfl,h _ hk,hb,hc⟩
end
def iK(W:World)(K:Nat->Prop)(M:Nat)(rl:Int->List R):Prop :=
 ∃(es:Array MapEntry) (clock:Nat),W.heap[M]? = some (.map es clock)/\(∀e∈es.toList,∃i:Int,e.key = .int .i64 i/\Lv W K e.val (rl i))/\(es.toList.map (·.key)).Nodup/\∀i:Int,(∀e∈es.toList,e.key ≠ .int .i64 i)->rl i=[]
theorem iK.lt{W:World}{K:Nat->Prop}{M:Nat}{rl:Int->List R}(H:iK W K M rl):M<W.heap.size:=by
 obtain⟨es,clock,h,_⟩:=H;exact(Array.getElem?_eq_some_iff.1 h).1
theorem iK.only{W W':World}{O K:Nat->Prop}{M:Nat}{rl:Int->List R}(H:iK W K M rl)(h:ar O W W')(hM : ¬O M)(hd:∀j,K j->¬O j):iK W' K M rl:=by
 have hlt:=H.lt;obtain⟨es,clock,h0,h1,h2,h3⟩:=H;refine⟨es,clock,(h.block M hlt hM).trans h0,λe he=>?_,h2,h3⟩;obtain⟨i,e1,e2⟩:=h1 e he;exact⟨i,e1,e2.only h hd⟩
theorem iK.mono{W:World}{K K':Nat->Prop}{M:Nat}{rl:Int->List R}(H:iK W K M rl)(h:∀j,K j->K' j):iK W K' M rl:=by
 obtain⟨es,clock,h0,h1,h2,h3⟩:=H;exact⟨es,clock,h0,λe he=>by obtain⟨i,e1,e2⟩:=h1 e he;exact⟨i,e1,e2.mono h⟩,h2,h3⟩
theorem xF:Tryz.prog.underlying 81=some (.map 3 25):=zk
theorem NV(w:World):(zeroValue 25).run Tryz.prog w = .ok (.slice none 0 0) w:=zk
theorem je(n:Nat)(em:Bool)(x:Int)(w:World):(Instr.checkKey em (n+1) 3 (.int .i64 x)).run Tryz.prog w = .ok () w:=by
 rw[Instr.checkKey];simp only[Sem.run_bind,run_underlying Tryz.underlying3,Result.andThen_ok];rfl
theorem yN{W:World}{es:Array MapEntry}{K:Nat->Prop}{rl:Int->List R}(h1:∀e∈es.toList,∃i:Int,e.key = .int .i64 i/\Lv W K e.val (rl i))(i:Int)(w:World) :
  ((Instr.findKey 3 (.int .i64 i) es.toList).run Tryz.prog w = .ok none w/\∀e∈es.toList,e.key ≠ .int .i64 i) ∨
  ∃j e,(Instr.findKey 3 (.int .i64 i) es.toList).run Tryz.prog w = .ok (some (j,e.val)) w/\es.toList[j]? = some e/\e.key = .int .i64 i:=by
 have hk:∀x∈es.toList,MapKept.IsKey (.int .i64) x.key:=λx hx=>by
  obtain⟨i,e,_⟩:=h1 x hx;rw[e];rfl
 rcases MapKept.findNow_spec (d:=.int .i64) (k:=.int .i64 i) rfl es.toList 0 hk with⟨h,h2⟩ | ⟨j,e,h,h2,h3⟩
 ·exact .inl ⟨by simp only[Instr.findKey,Sem.run_bind,run_underlying Tryz.underlying3,Result.andThen_ok,h];rfl,h2⟩
 ·refine .inr ⟨j,e,?_,h2,h3⟩;simp only[Instr.findKey,Sem.run_bind,run_underlying Tryz.underlying3,Result.andThen_ok,h,Nat.zero_add];rfl
theorem iK.look{W:World}{K:Nat->Prop}{M:Nat}{rl:Int->List R}(H:iK W K M rl)(i:Int) :
  ∃v,(Instr.lookup 81 (.map (some M)) (.int .i64 i) false).run Tryz.prog W = .ok v W/\Lv W K v (rl i):=by
 obtain⟨es,clock,h0,h1,h2,h3⟩:=H
 rcases yN h1 i W with⟨h,hn⟩ | ⟨j,e,h,hj,he⟩
 ·refine⟨.slice none 0 0,?_,by rw[h3 i hn];exact Lv.nil W K⟩;simp only[Instr.lookup,Sem.run_bind,run_underlying xF,Result.andThen_ok,MapKept.run_getObj_map h0,je,h,NV,Sem.run_pure,Bool.false_eq_true,if_false]
 ·obtain⟨i',e1,e2⟩:=h1 e (List.mem_of_getElem? hj);rw[he]at e1;injection e1 with _ e1;subst e1;refine⟨e.val,?_,e2⟩;simp only[Instr.lookup,Sem.run_bind,run_underlying xF,Result.andThen_ok,MapKept.run_getObj_map h0,je,h,Sem.run_pure,Bool.false_eq_true,if_false]
theorem Gq(x:Int)(w:World):(Instr.keyThatStays (.int .i64 x) (.int .i64 x)).run Tryz.prog w = .ok (.int .i64 x) w:=by
 rw[Instr.keyThatStays,show Instr.sameBits 10000 (.int .i64 x) (.int .i64 x)=true by simp[Instr.sameBits]];rfl
theorem dZ{w:World}{M:Nat}{es:Array MapEntry}{clock:Nat}(h:w.heap[M]? = some (.map es clock))(o:Obj):ar (· = M) w (ChangeMaps.setBlock w M o) :=
 ⟨rfl,rfl,rfl,by simp[ChangeMaps.setBlock],λk _ hk=>ChangeMaps.heap_setBlock_other h o hk⟩
theorem iK.drop{W:World}{K:Nat->Prop}{M:Nat}{rl:Int->List R}(H:iK W K M rl)(hK : ¬K M)(i:Int)(ty:TypeId) :
  ∃w',(Builtin.delete_ #[81,3] ty #[.map (some M),.int .i64 i]).run Tryz.prog W = .ok (.tuple #[]) w'/\iK w' K M (ic rl i [])/\ar (· = M) W w':=by
 obtain⟨es,clock,h0,h1,h2,h3⟩:=H
 rcases yN h1 i W with⟨h,hn⟩ | ⟨j,e,h,hj,he⟩
 ·have ho:=dZ h0 (.map es clock)
  have e0:ic rl i []=rl:=by
   funext x;unfold ic;split
   ·rename_i e;subst e;exact(h3 _ hn).symm
   ·rfl
  refine⟨_,?_,⟨es,clock,ChangeMaps.heap_setBlock_same h0 _,?_,h2,?_⟩,ho⟩
  ·simp only[Builtin.delete_,List.getElem?_toArray,List.getElem?_cons_zero,List.getElem?_cons_succ,Sem.run_bind,run_underlying xF,Result.andThen_ok,MapKept.run_getObj_map h0,je,h,MapKept.run_setObj_map _ h0,Sem.run_pure];rfl
  ·rw[e0];intro e he;obtain⟨i',a1,a2⟩:=h1 e he;exact⟨i',a1,a2.only ho λk hk e=>hK (e▸hk)⟩
  ·rw[e0];exact h3
 ·have hlt:j<es.size:=by have:=(List.getElem?_eq_some_iff.1 hj).1;simpa using this
  have ho:=dZ h0 (.map (es.eraseIdxIfInBounds j) clock)
  have e1:(es.eraseIdxIfInBounds j).toList=es.toList.eraseIdx j:=by
   rw[Array.eraseIdxIfInBounds,dif_pos hlt];simp
  have hoff:∀x∈es.toList.eraseIdx j,x.key ≠ .int .i64 i:=by
   intro x hx hk;obtain⟨m,hm,hx2⟩:=List.mem_eraseIdx_iff_getElem?.1 hx
   have a1:(es.toList.map (·.key))[m]? = some (.int .i64 i):=by rw[List.getElem?_map,hx2];simp[hk]
   have a2:(es.toList.map (·.key))[j]? = some (.int .i64 i):=by rw[List.getElem?_map,hj];simp[he]
   obtain⟨b1,c1⟩:=List.getElem?_eq_some_iff.1 a1;obtain⟨b2,c2⟩:=List.getElem?_eq_some_iff.1 a2;exact hm ((List.getElem_inj (h₀:=b1) (h₁:=b2) h2).1 (c1.trans c2.symm))
  refine⟨_,?_,⟨es.eraseIdxIfInBounds j,clock,ChangeMaps.heap_setBlock_same h0 _,?_,?_,?_⟩,ho⟩
  ·simp only[Builtin.delete_,List.getElem?_toArray,List.getElem?_cons_zero,List.getElem?_cons_succ,Sem.run_bind,run_underlying xF,Result.andThen_ok,MapKept.run_getObj_map h0,je,h,MapKept.run_setObj_map _ h0,Sem.run_pure];rfl
  ·intro x hx;rw[e1]at hx;obtain⟨i',a1,a2⟩:=h1 x (List.mem_of_mem_eraseIdx hx);refine⟨i',a1,?_⟩
   have:ic rl i [] i'=rl i':=by
    unfold ic;rw[if_neg];intro e;subst e;exact hoff x hx a1
   rw[this];exact a2.only ho λk hk e=>hK (e▸hk)
  ·rw[e1,List.eraseIdx_eq_take_drop_succ,List.map_append,List.map_take,List.map_drop,← List.eraseIdx_eq_take_drop_succ];exact h2.eraseIdx _
  ·intro x hx;unfold ic;split
   ·rfl
   ·rename_i hne;refine h3 x λy hy hk=>?_;obtain⟨m,hm⟩:=List.mem_iff_getElem?.1 hy;refine hx y ?_ hk;rw[e1];refine List.mem_eraseIdx_iff_getElem?.2 ⟨m,λe=>?_,hm⟩;subst e;rw[hj]at hm;obtain rfl:=Option.some.inj hm;rw[he]at hk;injection hk with _ hk;exact hne hk.symm
theorem iK.put{W:World}{K:Nat->Prop}{M:Nat}{rl:Int->List R}(H:iK W K M rl)(hK : ¬K M)(i:Int){v:Value}{l:List R}(hv:Lv W K v l) :
  ∃w',(Instr.mapUpdate 81 (.map (some M)) (.int .i64 i) v).run Tryz.prog W = .ok () w'/\iK w' K M (ic rl i l)/\ar (· = M) W w':=by
 obtain⟨es,clock,h0,h1,h2,h3⟩:=H
 have Qv:ic rl i l i=l:=by unfold ic;rw[if_pos rfl]
 rcases yN h1 i W with⟨h,hn⟩ | ⟨j,e,h,hj,he⟩
 ·have ho:=dZ h0 (.map (es.push { key:=.int .i64 i,val:=v,born:=clock }) (clock+1));refine⟨_,?_,⟨es.push { key:=.int .i64 i,val:=v,born:=clock },clock+1,ChangeMaps.heap_setBlock_same h0 _,?_,?_,?_⟩,ho⟩
  ·simp only[Instr.mapUpdate,Sem.run_bind,run_underlying xF,Result.andThen_ok,MapKept.run_getObj_map h0,je,h,MapKept.run_setObj_map _ h0];rfl
  ·intro x hx;simp only[Array.toList_push,List.mem_append,List.mem_singleton]at hx
   rcases hx with hx | rfl
   ·obtain⟨i',a1,a2⟩:=h1 x hx;refine⟨i',a1,?_⟩
    have:ic rl i l i'=rl i':=by
     unfold ic;rw[if_neg];intro e;subst e;exact hn x hx a1
    rw[this];exact a2.only ho λk hk e=>hK (e▸hk)
   ·exact⟨i,rfl,by rw[Qv];exact hv.only ho λk hk e=>hK (e▸hk)⟩
  ·simp only[Array.toList_push,List.map_append,List.map_cons,List.map_nil];rw[List.nodup_append];refine⟨h2,by simp,λa ha b hb e=>?_⟩;obtain⟨x,hx,rfl⟩:=List.mem_map.1 ha;simp at hb;exact hn x hx (e.trans hb)
  ·intro x hx;have hne:x≠i:=λe=>hx { key:=.int .i64 i,val:=v,born:=clock } zs (by rw[e]);unfold ic;rw[if_neg hne];exact h3 x λy hy=>hx y (by simp only[Array.toList_push,List.mem_append];exact .inl hy)
 ·have hlt:j<es.size:=by have:=(List.getElem?_eq_some_iff.1 hj).1;simpa using this
  have ho:=dZ h0 (.map (es.modify j λe=>{ e with key:=.int .i64 i,val:=v }) clock);have e1:(es.modify j λe=>{ e with key:=.int .i64 i,val:=v }).toList=es.toList.modify j λe=>{ e with key:=.int .i64 i,val:=v }:=zs
  have hkey:(es[j]?).map (·.key)=some (.int .i64 i):=by
   have:es[j]? = some e:=by simpa using hj
   rw[this];simp[he]
  have hkeys:(es.toList.modify j λe=>{ e with key:=.int .i64 i,val:=v }).map (·.key)=es.toList.map (·.key):=by
   apply List.ext_getElem?;intro m;simp only[List.getElem?_map,List.getElem?_modify];by_cases e:j=m
   ·subst e;rw[hj];simp[he]
   ·simp[e]
  refine⟨_,?_,⟨es.modify j λe=>{ e with key:=.int .i64 i,val:=v },clock,ChangeMaps.heap_setBlock_same h0 _,?_,?_,?_⟩,ho⟩
  ·simp only[Instr.mapUpdate,Sem.run_bind,run_underlying xF,Result.andThen_ok,MapKept.run_getObj_map h0,je,h,hkey,Option.getD_some,Gq,MapKept.run_setObj_map _ h0];rfl
  ·intro x hx;rw[e1]at hx;obtain⟨m,hm⟩:=List.mem_iff_getElem?.1 hx;rw[List.getElem?_modify]at hm
   cases hq:es.toList[m]? with
   | none=>simp[hq]at hm
   | some y =>
    rw[hq]at hm
    simp only[Option.map_eq_map,Option.map_some,Option.some.injEq]at hm
    by_cases e:j=m
    ·subst e;rw[if_pos rfl]at hm;subst hm;exact⟨i,rfl,by rw[Qv];exact hv.only ho λk hk e=>hK (e▸hk)⟩
    ·rw[if_neg e]at hm;subst hm;obtain⟨i',a1,a2⟩:=h1 y (List.mem_of_getElem? hq);refine⟨i',a1,?_⟩
     have:ic rl i l i'=rl i':=by
      unfold ic;rw[if_neg];intro e2;subst e2
      have b1:(es.toList.map (·.key))[m]? = some (.int .i64 i'):=by rw[List.getElem?_map,hq];simp[a1]
      have b2:(es.toList.map (·.key))[j]? = some (.int .i64 i'):=by rw[List.getElem?_map,hj];simp[he]
      obtain⟨c1,d1⟩:=List.getElem?_eq_some_iff.1 b1;obtain⟨c2,d2⟩:=List.getElem?_eq_some_iff.1 b2;exact e ((List.getElem_inj (h₀:=c2) (h₁:=c1) h2).1 (d2.trans d1.symm))
     rw[this];exact a2.only ho λk hk e=>hK (e▸hk)
  ·rw[e1,hkeys];exact h2
  ·intro x hx
   have hx':∀y∈es.toList,y.key ≠ .int .i64 x:=λy hy hk=>by
    have:y.key∈(es.toList.modify j λe=>{ e with key:=.int .i64 i,val:=v }).map (·.key):=by rw[hkeys];exact List.mem_map.2 ⟨y,hy,rfl⟩
    obtain⟨z,hz,jc⟩:=List.mem_map.1 this;exact hx z (by rw[e1];exact hz) (jc.trans hk)
   have hne:x≠i:=λe=>hx' _ (List.mem_of_getElem? hj) (by rw[e];exact he);unfold ic;rw[if_neg hne];exact h3 x hx'
end Pg
end Go.Proofs.YtbhnbcadgmagpaaGreatDoor
namespace Go.Proofs.YtbhnbcadgmagpaaGreatDoor
open Go.ChangeShapes Go.WideShapes Go.ChangeAt Go.RowKit Go.aN Go.Lib
namespace Pg
open bg (Ms)
open aE (R)
open ak (Ke)
open Me (ptr)
open Tb (UW TM Fw)
abbrev MZ(C:Cf)(mb tb rm:Nat)(pv:Value):Array Value :=
 #[.int .i64 (C.n:Int),.int .i64 C.N,.int .i64 (C.T 0),.int .i64 (C.T 1),.int .i64 (C.T 2),.int .i64 (C.T 3),.int .i64 (C.T 4),.int .i64 (C.T 5),.int .i64 (C.T 6),.int .i64 (C.T 7),.int .i64 (C.T 8),.int .i64 (C.T 9),.int .i64 (C.T 10),.int .i64 (C.T 11),.int .i64 (C.T 12),.int .i64 (C.T 13),.int .i64 (C.T 14),.int .i64 (C.T 15),
  ptr mb,ptr tb,.map (some rm),pv]
def KC:At->Nat
 | .find=>70
 | .release=>108
 | .load=>152
 | .judge=>206
 | .advance=>259
 | .sure=>258
 | .look=>256
 | .again=>67
 | .over=>105
 | .kill=>115
 | .less=>171
 | .leave=>223
 | .absent=>106
 | .enter=>148
 | .unlock=>202
 | .malformed=>64
 | .count=>99
 | .add=>142
 | .readClock=>38
 | .tick=>72
 | .claim=>75
 | .prepare=>114
 | .publish=>167
 | .disclaim=>164
 | .stat=>79
 | .take=>78
 | .visit=>76
 | .inspect=>116
 | .finish=>172
 | .endOp=>80
 | .done=>0
abbrev pu(n:Nat):Value:=.func (.func n) #[] #[]
def iB(a:At):Value:=match a with
 | .done=>.nilFunc
 | a=>pu (KC a)
def j6(q:Nat):Value:=if q=1 then pu 67 else if jv q then pu 76 else .nilFunc
def kM(q:Nat):Value:=if q=1 then pu 68 else if jv q then pu 77 else .nilFunc
abbrev n9(B:Nat)(r:Rn)(lv kv:Value):Array Value :=
 #[ptr B,.int .i64 r.t,.int .i64 r.op,iB r.at_,.int .i64 r.mu,.bool r.ki,.bool r.en,.int .i64 r.e,.int .i64 r.v,.int .i64 r.n,.int .i64 r.z,lv,
  .int .u8 (r.p.pr:Int),.int .u32 (r.p.sr:Int),.int .u32 (r.p.ds:Int),.int .u16 (r.p.sp:Int),.int .u16 (r.p.dp:Int),.int .u8 (r.p.fl:Int),.int .u8 (r.p.kd:Int),.bool r.dn,.bool (r.q==4),j6 r.q,kM r.q,
  .int .i64 (r.st:Int),kv,.int .u32 (r.k.a:Int),.int .u32 (r.k.b:Int),.int .u16 (r.k.p:Int),.int .u16 (r.k.q:Int),.int .u8 (r.k.r:Int),.int .i64 r.x,.bool r.tu,.int .i64 r.tn,.int .i64 (r.mr:Int),.int .u64 r.wf,.int .u64 r.wg,.int .u64 r.wc]
abbrev Gr(p:Pt):List Value:=[.int .i64 p.kd,.int .i64 p.t,.int .i64 p.op,.int .u32 (p.k.a:Int),.int .u32 (p.k.b:Int),.int .u16 (p.k.p:Int),.int .u16 (p.k.q:Int),.int .u8 (p.k.r:Int),.int .i64 p.v,.int .i64 p.n]
def rE(ps:List Pt):List Value:=ps.flatMap Gr
theorem yO(ps:List Pt)(p:Pt):rE (ps++[p])=rE ps++Gr p:=by unfold rE;rw[List.flatMap_append];simp
def Own(Om Ot:Nat->Prop)(B rm:Nat)(pv:Value)(j:Nat):Prop:=Om j\/Ot j\/j=B\/j=rm\/pv.ownBlock=some j
structure Bs where
 w0:World
 C:Cf
 B:Nat
 mb:Nat
 tb:Nat
 rm:Nat
 g:Nat
 W:World
 O:Nat->Prop
 K:Nat->Prop
structure YR(b:Bs)(Om Ot K:Nat->Prop)(pv lv kv:Value)(S:Sh)(r:Rn)(W:World):Prop where
 mem:Me.kA W Om b.mb S.ms
 dr:UW W Ot b.tb b.mb b.C.n S.fs
 blk:aF W b.B (MZ b.C b.mb b.tb b.rm pv) 83
 map:iK W K b.rm S.rl
 pts:W.ownsRow b.w0.heap.size 89 10 pv S.pts.length (rE S.pts)
 run:aF W b.g (n9 b.B r lv kv) 97
 n_:Lv W K lv r.li
 oq:Kv W K kv r.ks
 az:Below b.w0.heap.size b.w0 W
 nm:∀j,Om j->b.w0.heap.size<=j
 nt:∀j,Ot j->b.w0.heap.size<=j
 nb:b.w0.heap.size<=b.B
 nr:b.w0.heap.size<=b.rm
 ng:b.w0.heap.size<=b.g
 tC:∀j,Om j->¬Ot j
 dm : ¬Om b.B/\¬Om b.rm
 dt : ¬Ot b.B/\¬Ot b.rm
 br:b.B≠b.rm
 dp:∀j,pv.ownBlock=some j->¬Om j/\¬Ot j/\j≠b.B/\j≠b.rm
 dg : ¬Own Om Ot b.B b.rm pv b.g
 dk:∀j,K j->¬Own Om Ot b.B b.rm pv j/\j≠b.g/\j<W.heap.size
 Gs:ar (λj=>b.O j\/j=b.g) b.W W
 og:∀j,Own Om Ot b.B b.rm pv j->b.O j\/b.W.heap.size<=j
 kg:∀j,b.K j->K j
 kn:∀j,K j->b.K j\/b.W.heap.size<=j
section
variable {b:Bs}{W w':World}{Om Ot K jG:Nat->Prop}{pv lv kv lY PG PI:Value}{S S':Sh}{r r':Rn}
theorem YR.lt(H:YR b Om Ot K pv lv kv S r W){j:Nat}(hj:Own Om Ot b.B b.rm pv j):j<W.heap.size:=by
 rcases hj with h | h | rfl | rfl | h
 ·exact H.mem.lt j h
 ·exact H.dr.C4 j h
 ·exact H.blk.lt
 ·exact H.map.lt
 ·exact(H.pts.lt j h).2
theorem YR.step(H:YR b Om Ot K pv lv kv S r W){P:Nat->Prop}(ho:ar P W w')(hP:∀j,P j->Own Om Ot b.B b.rm pv j\/j=b.g)
  (mem:Me.kA w' jG b.mb S'.ms) (dr:UW w' Ot b.tb b.mb b.C.n S'.fs) (blk:aF w' b.B (MZ b.C b.mb b.tb b.rm lY) 83) (map:iK w' K b.rm S'.rl)
  (pts:w'.ownsRow b.w0.heap.size 89 10 lY S'.pts.length (rE S'.pts)) (run:aF w' b.g (n9 b.B r' PG PI) 97) (n_:Lv w' K PG r'.li) (oq:Kv w' K PI r'.ks)
  (QL:∀j,jG j->Om j\/W.heap.size<=j) (hd:∀j,jG j->¬Ot j) (hpv:∀j,lY.ownBlock=some j->¬jG j/\(pv.ownBlock=some j\/W.heap.size<=j)):YR b jG Ot K lY PG PI S' r' w':=by
 have UD:=H.run.lt
 have old:∀j,Own jG Ot b.B b.rm lY j->Own Om Ot b.B b.rm pv j\/W.heap.size<=j:=λj hj=>by
  rcases hj with h | h | h | h | h
  ·exact(QL j h).imp .inl id
  ·exact .inl (.inr (.inl h))
  ·exact .inl (.inr (.inr (.inl h)))
  ·exact .inl (.inr (.inr (.inr (.inl h))))
  ·exact(hpv j h).2.imp (λh=>.inr (.inr (.inr (.inr h)))) id
 exact
 {mem:=mem,dr:=dr,blk:=blk,map:=map,pts:=pts,run:=run,n_:=n_,oq:=oq
  az:=H.az.trans (ho.below (λj hj=>(hP j hj).elim (λh=>by
   rcases h with h | h | rfl | rfl | h
   ·exact H.nm j h
   ·exact H.nt j h
   ·exact H.nb
   ·exact H.nr
   ·exact(H.pts.lt j h).1) (λh=>h▸H.ng)) H.az.size)
  nm:=λj hj=>(QL j hj).elim (H.nm j) λh=>Nat.le_trans H.az.size h
  nt:=H.nt,nb:=H.nb,nr:=H.nr,ng:=H.ng,tC:=hd
  dm:=⟨λh=>(QL _ h).elim H.dm.1 λh=>by have:=H.blk.lt;omega,λh=>(QL _ h).elim H.dm.2 λh=>by have:=H.map.lt;omega⟩
  dt:=H.dt,br:=H.br
  dp:=λj hj=>by
   refine⟨(hpv j hj).1,?_⟩
   rcases(hpv j hj).2 with h | h
   ·exact(H.dp j h).2
   ·exact⟨λe=>by have:=H.dr.C4 j e;omega,λe=>by have:=H.blk.lt;omega,λe=>by have:=H.map.lt;omega⟩
  dg:=λh=>(old _ h).elim H.dg λh=>by omega
  dk:=λj hj=>by
   obtain⟨h1,h2,h3⟩:=H.dk j hj
   exact⟨λh=>(old _ h).elim h1 λh=>by omega,h2,Nat.lt_of_lt_of_le h3 ho.size⟩
  Gs:=H.Gs.trans ho λj hj=>(hP j hj).elim (λh=>(H.og j h).imp .inl id) λh=>.inl (.inr h)
  og:=λj hj=>(old j hj).elim (H.og j) λh=>.inr (Nat.le_trans H.Gs.size h)
  kg:=H.kg,kn:=H.kn }
theorem YR.next(H:YR b Om Ot K pv lv kv S r W)(hb:Below W.heap.size W w'):YR b Om Ot K pv lv kv S r w' :=
 H.step (ar.aS (O:=λ_=>False) hb) (λ_ e=>e.elim) (H.mem.next hb) (H.dr.next hb) (H.blk.next hb) (H.map.only (ar.aS (O:=λ_=>False) hb) (λe=>e) λ_ _ e=>e)
  (bf H.pts λg e=>hb.block g (H.pts.lt g e).2) (H.run.next hb) (H.n_.only (ar.aS (O:=λ_=>False) hb) λ_ _ e=>e) (H.oq.only (ar.aS (O:=λ_=>False) hb) λ_ _ e=>e)
  (λj h=>.inl h) H.tC λj h=>⟨(H.dp j h).1,.inl h⟩
theorem YR.turn(H:YR b Om Ot K pv lv kv S r W)(ho:ar (λj=>Om j\/Ot j) W w'){C5:Ms}{fs':List bJ.Fl}(mem:Me.kA w' jG b.mb C5)(dr:UW w' Ot b.tb b.mb b.C.n fs')(QL:∀j,jG j->Om j\/W.heap.size<=j)(hd:∀j,jG j->¬Ot j) :
  YR b jG Ot K pv lv kv { S with ms:=C5,fs:=fs' } r w':=by
 have hK:∀j,K j->¬(Om j\/Ot j):=λj hj e=>(H.dk j hj).1 (e.elim .inl λh=>.inr (.inl h))
 exact H.step ho (λj e=>.inl (e.elim .inl λh=>.inr (.inl h))) mem dr (H.blk.only ho λe=>e.elim H.dm.1 H.dt.1) (H.map.only ho (λe=>e.elim H.dm.2 H.dt.2) hK)
  (bf H.pts λg e=>ho.block g (H.pts.lt g e).2 λh=>h.elim (H.dp g e).1 (H.dp g e).2.1) (H.run.only ho λe=>H.dg (e.elim .inl λh=>.inr (.inl h))) (H.n_.only ho hK) (H.oq.only ho hK)
  QL hd λj h=>⟨λe=>(QL j e).elim (H.dp j h).1 λe=>by have:=(H.pts.lt j h).2;omega,.inl h⟩
theorem YR.set(H:YR b Om Ot K pv lv kv S r W)(i:Nat)(v:Value)(h:(n9 b.B r lv kv).setIfInBounds i v=n9 b.B r' PG PI)(n_:Lv W K PG r'.li)(oq:Kv W K PI r'.ks):YR b Om Ot K pv PG PI S r' (W.setCell ⟨b.g,i,none⟩ v):=by
 have ho:ar (· = b.g) W (W.setCell ⟨b.g,i,none⟩ v):=(ar.refl (· = b.g) W).setCell (p:=⟨b.g,i,none⟩) (.inl rfl) v;have hK:∀j,K j->¬(j=b.g):=λj hj=>(H.dk j hj).2.1
 exact H.step ho (λj e=>.inr e) (H.mem.far ho λj hj e=>H.dg (.inl (e▸hj))) (H.dr.far ho λj hj e=>H.dg (.inr (.inl (e▸hj)))) (H.blk.only ho λe=>H.dg (.inr (.inr (.inl e.symm)))) (H.map.only ho (λe=>H.dg (.inr (.inr (.inr (.inl e.symm))))) hK)
  (bf H.pts λg e=>ho.block g (H.pts.lt g e).2 λh=>H.dg (.inr (.inr (.inr (.inr (h▸e)))))) (H.run.set' i v h) (n_.only ho hK) (oq.only ho hK)
  (λj h=>.inl h) H.tC λj h=>⟨(H.dp j h).1,.inl h⟩
theorem YR.yP(H:YR b Om Ot K pv lv kv S r W){w1:World}{ps:List Pt}(hg:ar (λj=>pv.ownBlock=some j) W w1)(pts:w1.ownsRow b.w0.heap.size 89 10 lY ps.length (rE ps))(hpv:∀j,lY.ownBlock=some j->pv.ownBlock=some j\/W.heap.size<=j) :
  YR b Om Ot K lY lv kv { S with pts:=ps } r (w1.setCell ⟨b.B,21,none⟩ lY):=by
 have ho:ar (λj=>pv.ownBlock=some j\/j=b.B) W (w1.setCell ⟨b.B,21,none⟩ lY):=(hg.mono λj h=>.inl h).setCell (.inl (.inr rfl)) lY
 have hK:∀j,K j->¬(pv.ownBlock=some j\/j=b.B):=λj hj e=>(H.dk j hj).1 (e.elim (λh=>.inr (.inr (.inr (.inr h)))) λh=>.inr (.inr (.inl h)))
 have hb:aF w1 b.B (MZ b.C b.mb b.tb b.rm pv) 83:=H.blk.only hg λe=>(H.dp _ e).2.2.1 rfl
 have ZB:∀j,lY.ownBlock=some j->j≠b.B:=λj h e=>by
  rcases hpv j h with h | h
  ·exact(H.dp j h).2.2.1 e
  ·have:=H.blk.lt;omega
 exact H.step ho (λj e=>.inl (e.elim (λh=>.inr (.inr (.inr (.inr h)))) λh=>.inr (.inr (.inl h)))) (H.mem.far ho λj hj e=>e.elim (λh=>(H.dp j h).1 hj) λh=>H.dm.1 (h▸hj)) (H.dr.far ho λj hj e=>e.elim (λh=>(H.dp j h).2.1 hj) λh=>H.dt.1 (h▸hj))
  (hb.set' 21 lY rfl) (H.map.only ho (λe=>e.elim (λh=>(H.dp _ h).2.2.2 rfl) λh=>H.br h.symm) hK) (bf pts λg e=>Below.heap_setCell _ _ _ _ (ZB g e))
  (H.run.only ho λe=>H.dg (e.elim (λh=>.inr (.inr (.inr (.inr h)))) λh=>.inr (.inr (.inl h)))) (H.n_.only ho hK) (H.oq.only ho hK)
  (λj h=>.inl h) H.tC λj h=>⟨λe=>(hpv j h).elim (λh=>(H.dp j h).1 e) λh=>by have:=H.mem.lt j e;omega,hpv j h⟩
theorem YR.fill(H:YR b Om Ot K pv lv kv S r W){ps:List Pt}(ho:ar (λj=>pv.ownBlock=some j) W w')(pts:w'.ownsRow b.w0.heap.size 89 10 pv ps.length (rE ps)):YR b Om Ot K pv lv kv { S with pts:=ps } r w':=by
 have hK:∀j,K j->¬(pv.ownBlock=some j):=λj hj e=>(H.dk j hj).1 (.inr (.inr (.inr (.inr e))))
 exact H.step ho (λj e=>.inl (.inr (.inr (.inr (.inr e))))) (H.mem.far ho λj hj e=>(H.dp j e).1 hj) (H.dr.far ho λj hj e=>(H.dp j e).2.1 hj) (H.blk.only ho λe=>(H.dp _ e).2.2.1 rfl) (H.map.only ho (λe=>(H.dp _ e).2.2.2 rfl) hK) pts
  (H.run.only ho λe=>H.dg (.inr (.inr (.inr (.inr e))))) (H.n_.only ho hK) (H.oq.only ho hK) (λj h=>.inl h) H.tC λj h=>⟨(H.dp j h).1,.inl h⟩
theorem YR.rules(H:YR b Om Ot K pv lv kv S r W)(ho:ar (· = b.rm) W w'){rl:Int->List R}(map:iK w' K b.rm rl):YR b Om Ot K pv lv kv { S with rl:=rl } r w':=by
 have hK:∀j,K j->¬(j=b.rm):=λj hj e=>(H.dk j hj).1 (.inr (.inr (.inr (.inl e))))
 exact H.step ho (λj e=>.inl (.inr (.inr (.inr (.inl e))))) (H.mem.far ho λj hj e=>H.dm.2 (e▸hj)) (H.dr.far ho λj hj e=>H.dt.2 (e▸hj)) (H.blk.only ho H.br) map
  (bf H.pts λg e=>ho.block g (H.pts.lt g e).2 λh=>(H.dp g e).2.2.2 h) (H.run.only ho λe=>H.dg (.inr (.inr (.inr (.inl e))))) (H.n_.only ho hK) (H.oq.only ho hK) (λj h=>.inl h) H.tC λj h=>⟨(H.dp j h).1,.inl h⟩
theorem YR.more(H:YR b Om Ot K pv lv kv S r W)(n:Nat)(hn:b.W.heap.size<=n)(hf:∀j,Own Om Ot b.B b.rm pv j\/j=b.g->j<n\/n+1<=j)(hl:n<W.heap.size):YR b Om Ot (λj=>K j\/j=n) pv lv kv S r W :=
 { H with
  map:=H.map.mono λj h=>.inl h
  n_:=H.n_.mono λj h=>.inl h
  oq:=H.oq.mono λj h=>.inl h
  dk:=λj hj=>hj.elim (H.dk j) λe=>by
   subst e
   exact⟨λh=>by have:=hf j (.inl h);omega,λh=>by have:=hf j (.inr h);omega,hl⟩
  kg:=λj h=>.inl (H.kg j h)
  kn:=λj h=>h.elim (H.kn j) λe=>.inr (e▸hn) }
end
def Y(b:Bs)(S:Sh)(r:Rn)(W:World):Prop:=∃Om Ot K pv lv kv,YR b Om Ot K pv lv kv S r W
section
variable {b:Bs}{W w':World}{S S':Sh}{r r':Rn}
theorem Y.next(H:Y b S r W)(hb:Below W.heap.size W w'):Y b S r w':=by
 obtain⟨Om,Ot,K,pv,lv,kv,h⟩:=H;exact⟨Om,Ot,K,pv,lv,kv,h.next hb⟩
theorem Y.drew(H:Y b S r W):Y b S r W.drew:=H.next (Below.refl _ W).drew
theorem Y.alloc(H:Y b S r W)(o:Obj):Y b S r (W.alloc o):=H.next ((Below.refl _ W).alloc zl o)
theorem Y.set(H:Y b S r W)(i:Nat)(v:Value)(h:∀lv kv,(n9 b.B r lv kv).setIfInBounds i v=n9 b.B r' lv kv)(hl:r'.li=r.li)(hk:r'.ks=r.ks):Y b S r' (W.setCell ⟨b.g,i,none⟩ v):=by
 obtain⟨Om,Ot,K,pv,lv,kv,H⟩:=H;exact⟨Om,Ot,K,pv,lv,kv,H.set i v (h lv kv) (hl▸H.n_) (hk▸H.oq)⟩
theorem Y.cell(H:Y b S r W)(i:Nat)(v:Value)(h:∀lv kv,(n9 b.B r lv kv)[i]? = some v):W.cell? ⟨b.g,i,none⟩=some v:=by
 obtain⟨Om,Ot,K,pv,lv,kv,H⟩:=H;exact H.run.cell i v (h lv kv)
theorem Y.frozen(H:Y b S r W)(i:Nat):W.frozen? ⟨b.g,i,none⟩=false:=by
 obtain⟨Om,Ot,K,pv,lv,kv,H⟩:=H;exact H.run.frozen i
theorem Y.shared(H:Y b S r W)(i:Nat)(v:Value)(h:∀pv,(MZ b.C b.mb b.tb b.rm pv)[i]? = some v):W.cell? ⟨b.B,i,none⟩=some v:=by
 obtain⟨Om,Ot,K,pv,lv,kv,H⟩:=H;exact H.blk.cell i v (h pv)
theorem Y.env(H:Y b S r W)(he:Env b.w0):Env W:=by
 obtain⟨Om,Ot,K,pv,lv,kv,H⟩:=H;exact he.below H.az
theorem Y.word(H:Y b S r W)(i:Int):g_ (bg.af S.ms i):=by
 obtain⟨Om,Ot,K,pv,lv,kv,H⟩:=H;have h:=H.mem.2;unfold bg.af;split
 ·rename_i hb;obtain⟨j,rfl,hj⟩:=bg.c_ hb;exact h.Vf hj
 ·exact⟨by omega,by omega⟩
theorem Y.does(H:Y b S r W){f:Nat}{args:Array Value}{v:Value}{C5:Ms}(h:∀Om,Me.kA W Om b.mb S.ms->Calls Tryz.prog f args W (Me.yx W Om b.mb v C5)):Calls Tryz.prog f args W λe w'=>e = .returned v/\Y b { S with ms:=C5 } r w':=by
 obtain⟨Om,Ot,K,pv,lv,kv,H⟩:=H;refine(h Om H.mem).mono ?_;rintro e w' ⟨O',h1,h2,h3,h4⟩;exact⟨h1,O',Ot,K,pv,lv,kv,H.turn (S:=S) (fs':=S.fs) (h3.mono λj h=>.inl h) h2 (H.dr.far h3 λj hb ha=>H.tC j ha hb) h4 λj hj hb=>(h4 j hj).elim (λh=>H.tC j h hb) λh=>by have:=H.dr.C4 j hb;omega⟩
def els(w0 W:World)(Om Ot:Nat->Prop):Fw:={ w0 with F:=λj o=>W.heap[j]? = some o/\¬Om j/\¬Ot j,lo:=W.heap.size }
theorem YR.tm{Om Ot K:Nat->Prop}{pv lv kv:Value}(H:YR b Om Ot K pv lv kv S r W):TM (els b.w0 W Om Ot) Om Ot b.mb b.tb S.ms b.C.n S.fs W :=
 ⟨H.mem,H.dr,H.az,H.nm,H.nt,H.tC,λj o h=>h.1,λj o h=>h.2,Nat.le_refl _⟩
theorem YR.EM{Om Ot K jG:Nat->Prop}{pv lv kv:Value}{C5:Ms}{fs':List bJ.Fl}(H:YR b Om Ot K pv lv kv S r W)(T:TM (els b.w0 W Om Ot) jG Ot b.mb b.tb C5 b.C.n fs' w'):YR b jG Ot K pv lv kv { S with ms:=C5,fs:=fs' } r w':=by
 have get:∀k,k<W.heap.size->∃o,W.heap[k]? = some o:=λk hk=>⟨_,Array.getElem?_eq_getElem hk⟩
 have ho:ar (λj=>Om j\/Ot j) W w':=⟨T.az.os.trans H.az.os.symm,T.az.tape.trans H.az.tape.symm,T.az.output.trans H.az.output.symm,T.sz,λk hk hn=>by
  obtain⟨o,ho⟩:=get k hk
  exact(T.fr k o ⟨ho,λe=>hn (.inl e),λe=>hn (.inr e)⟩).trans ho.symm⟩
 refine H.turn ho T.mem T.dr (λj hj=>?_) T.J1;by_cases hm:Om j
 ·exact .inl hm
 ·rcases Nat.lt_or_ge j W.heap.size with hl | hl
  ·obtain⟨o,ho⟩:=get j hl;exact absurd hj (T.nf j o ⟨ho,hm,λe=>T.J1 j hj e⟩).1
  ·exact .inr hl
theorem Y.table(H:Y b S r W){f:Nat}{args:Array Value}{v:Value}{C5:Ms}{fs':List bJ.Fl}(h:∀w Om Ot,TM w Om Ot b.mb b.tb S.ms b.C.n S.fs W->Calls Tryz.prog f args W (Tb.Td w Ot b.mb b.tb v C5 b.C.n fs')):Calls Tryz.prog f args W λe w'=>e = .returned v/\Y b { S with ms:=C5,fs:=fs' } r w':=by
 obtain⟨Om,Ot,K,pv,lv,kv,H⟩:=H;refine(h _ _ _ H.tm).mono ?_;rintro e w' ⟨jG,h1,h2⟩;exact⟨h1,jG,Ot,K,pv,lv,kv,H.EM h2⟩
end
end Pg
end Go.Proofs.YtbhnbcadgmagpaaGreatDoor
namespace Go.Proofs.YtbhnbcadgmagpaaGreatDoor
open Go.ChangeShapes Go.WideShapes Go.ChangeAt Go.RowKit Go.aN Go.Lib
namespace Pg
open bg (Ms af bq ay aP ag L4 aH aq ai bD)
open aE (R)
open ak (Ke)
open Me (ptr)
open Tb (UW TM Fw)
def Yd(b:Bs)(v:Value)(S:Sh)(r:Rn)(e:Ending)(w':World):Prop:=e = .returned v/\Y b S r w'
abbrev U:Value:=.tuple #[]
section
variable {b:Bs}{W:World}{S:Sh}{r:Rn}
theorem aB(H:Y b S r W)(a:At)(n:Nat)(hv:iB a=pu n):Calls Tryz.prog 37 #[ptr b.g,pu n] W (Yd b U S (goto r a)):=by
 have H1:=hid (H.set (r':=goto r a) 3 (pu n) (λ_ _=>hv▸rfl) rfl rfl);have f3:=H.frozen 3;have c3:=H.cell 3 (iB r.at_) zf;clear H hv;go_in;go_wp2_with fail;go_end0;exact⟨rfl,H1.out⟩
theorem fA(H:Y b S r W)(m:Int)(a:At)(n:Nat)(hv:iB a=pu n):Calls Tryz.prog 69 #[ptr b.g,.int .i64 m,pu n] W (Yd b U S (j4 r m a)):=by
 have H1:=hid ((H.set (r':={ r with mu:=m }) 4 (.int .i64 m) zf rfl rfl).set (r':=j4 r m a) 3 (pu n) (λ_ _=>hv▸rfl) rfl rfl);have f3:=H.frozen 3;have c3:=H.cell 3 (iB r.at_) zf;have f4:=H.frozen 4;have c4:=H.cell 4 _ zf;clear H hv;go_in;go_wp2_with fail;go_end0;exact⟨rfl,H1.out⟩
theorem bF(H:Y b S r W)(hr:Rm 0 S):Calls Tryz.prog 71 #[ptr b.g] W (Yd b U (gX S r 0) (dK S r)):=by
 have HY:=hid H;have HL:Hid (S.ms.ls.length<=1000000000000):=hr.l;clear H hr;go_in;go_wp2_with fail;refine wp_region_held_drew (S:=λw'=>w'.cell? ⟨b.g,0,none⟩=some (ptr b.B)/\w'.cell? ⟨b.B,18,none⟩=some (ptr b.mb)/\w'.cell? ⟨b.g,1,none⟩=some (.int .i64 r.t)) zk (⟨HY.out.drew.cell 0 (ptr b.B) zf,HY.out.drew.shared 18 (ptr b.mb) zg,HY.out.drew.cell 1 (.int .i64 r.t) zf⟩) (λhH=>?_);refine zr 0 2 hH ?_;refine zr 1 3 hH ?_;refine zr 2 4 hH ?_;refine zr 3 5 hH ?_;refine zr 4 6 hH ?_;refine zr 5 7 hH ?_;refine zr 6 8 hH ?_;refine zr 7 9 hH ?_;refine zr 8 10 hH ?_;refine zr 9 11 hH ?_;refine zr 10 12 hH ?_;refine zr 11 13 hH ?_
 try simp only[zq]
 refine zrd 12 (λK hK=>?_);go_simp;refine(HY.out.drew.does (λOm h=>Me.my h r.t 0 HL.out)).mono ?_;rintro e w2 ⟨rfl,hy⟩;refine hK.out _ _ (⟨hy.cell 0 (ptr b.B) zf,hy.shared 18 (ptr b.mb) zg,hy.cell 1 (.int .i64 r.t) zf⟩) (λhH=>?_);clear hK K;have H2:=hid hy;have H3:=hid (hy.set (r':=dK S r) 35 (.int .u64 (af S.ms 0)) zf rfl rfl);clear hy HY
 try simp only[zq]
 refine zr 13 15 hH ?_;refine zr 14 16 hH ?_
 try simp only[zq]
 refine zrd 15 (λK hK=>?_);have f0:=H2.out.frozen 35;have c0:=H2.out.cell 35 _ zf;go_simp;clear c0 f0;refine hK.out _ _ (⟨H3.out.cell 0 (ptr b.B) zf,H3.out.shared 18 (ptr b.mb) zg,H3.out.cell 1 (.int .i64 r.t) zf⟩) (λhH=>?_);clear hK K
 try simp only[zq]
 refine wpAnyH_done zk ?_ _;clear hH;go_wp2_with fail;go_end0;exact⟨rfl,H3.out⟩
theorem gL(H:Y b S r W)(hr:Rm 0 S):Calls Tryz.prog 104 #[ptr b.g] W (Yd b U (gX S r r.x) (CB S r)):=by
 have HY:=hid H;have HL:Hid (S.ms.ls.length<=1000000000000):=hr.l;clear H hr;go_in;go_wp2_with fail;refine wp_region_held_drew (S:=λw'=>w'.cell? ⟨b.g,0,none⟩=some (ptr b.B)/\w'.cell? ⟨b.B,18,none⟩=some (ptr b.mb)/\w'.cell? ⟨b.g,1,none⟩=some (.int .i64 r.t)/\w'.cell? ⟨b.g,30,none⟩=some (.int .i64 r.x)) zk (⟨HY.out.drew.cell 0 (ptr b.B) zf,HY.out.drew.shared 18 (ptr b.mb) zg,HY.out.drew.cell 1 (.int .i64 r.t) zf,HY.out.drew.cell 30 (.int .i64 r.x) zf⟩) (λhH=>?_);refine zr 0 2 hH ?_;refine zr 1 3 hH ?_;refine zr 2 4 hH ?_;refine zr 3 5 hH ?_;refine zr 4 6 hH ?_;refine zr 5 7 hH ?_;refine zr 6 8 hH ?_;refine zr 7 9 hH ?_;refine zr 8 10 hH ?_;refine zr 9 11 hH ?_;refine zr 10 12 hH ?_;refine zr 11 13 hH ?_;refine zr 12 14 hH ?_;refine zr 13 15 hH ?_;refine zr 14 16 hH ?_;refine zr 15 17 hH ?_
 try simp only[zq]
 refine zrd 16 (λK hK=>?_);go_simp;refine(HY.out.drew.does (λOm h=>Me.my h r.t r.x HL.out)).mono ?_;rintro e w2 ⟨rfl,hy⟩;refine hK.out _ _ (⟨hy.cell 0 (ptr b.B) zf,hy.shared 18 (ptr b.mb) zg,hy.cell 1 (.int .i64 r.t) zf,hy.cell 30 (.int .i64 r.x) zf⟩) (λhH=>?_);clear hK K;have H2:=hid hy;have H3:=hid (hy.set (r':=CB S r) 34 (.int .u64 (af S.ms r.x)) zf rfl rfl);clear hy HY
 try simp only[zq]
 refine zr 17 19 hH ?_;refine zr 18 20 hH ?_
 try simp only[zq]
 refine zrd 19 (λK hK=>?_);have f0:=H2.out.frozen 34;have c0:=H2.out.cell 34 _ zf;go_simp;clear c0 f0;refine hK.out _ _ (⟨H3.out.cell 0 (ptr b.B) zf,H3.out.shared 18 (ptr b.mb) zg,H3.out.cell 1 (.int .i64 r.t) zf,H3.out.cell 30 (.int .i64 r.x) zf⟩) (λhH=>?_);clear hK K
 try simp only[zq]
 refine wpAnyH_done zk ?_ _;clear hH;go_wp2_with fail;go_end0;exact⟨rfl,H3.out⟩
theorem mE(H:Y b S r W)(hr:Rm 0 S)(m:Int):Calls Tryz.prog 151 #[ptr b.g,.int .i64 m] W (Yd b U (iy S r m) r):=by
 have HY:=hid H;have HL:Hid (S.ms.ls.length<=1000000000000):=hr.l;clear H hr;go_in;go_wp2_with fail;refine wp_region_held_drew (S:=λw'=>w'.cell? ⟨b.g,0,none⟩=some (ptr b.B)/\w'.cell? ⟨b.B,18,none⟩=some (ptr b.mb)/\w'.cell? ⟨b.g,1,none⟩=some (.int .i64 r.t)) zk (⟨HY.out.drew.cell 0 (ptr b.B) zf,HY.out.drew.shared 18 (ptr b.mb) zg,HY.out.drew.cell 1 (.int .i64 r.t) zf⟩) (λhH=>?_);refine zr 0 4 hH ?_;refine zr 1 5 hH ?_;refine zr 2 6 hH ?_;refine zr 3 7 hH ?_;refine zr 4 8 hH ?_;refine zr 5 9 hH ?_;refine zr 6 10 hH ?_;refine zr 7 11 hH ?_;refine zr 8 12 hH ?_;refine zr 9 13 hH ?_;refine zr 10 14 hH ?_;refine zr 11 15 hH ?_
 try simp only[zq]
 refine zrd 12 (λK hK=>?_);go_simp;refine(HY.out.drew.does (λOm h=>Me.CZ h r.t m HL.out)).mono ?_;rintro e w2 ⟨rfl,hy⟩;refine hK.out _ _ (⟨hy.cell 0 (ptr b.B) zf,hy.shared 18 (ptr b.mb) zg,hy.cell 1 (.int .i64 r.t) zf⟩) (λhH=>?_);clear hK K;have H2:=hid hy;clear hy HY
 try simp only[zq]
 refine wpAnyH_done zk ?_ _;clear hH;go_wp2_with fail;go_end0;exact⟨rfl,H2.out⟩
theorem cf(H:Y b S r W)(hr:Rm 0 S)(now:Int)(hn:g_ now):Calls Tryz.prog 111 #[ptr b.g,.int .u64 now] W (Yd b (.bool (ay S.ms (0) r.wg)) (fG S r (0) r.wg now) r):=by
 have HN:=hid hn;clear hn;have HY:=hid H;have HL:Hid (S.ms.ls.length<=1000000000000):=hr.l;clear H hr;go_in;go_wp2_with fail;refine wp_region_held_drew (S:=λw'=>w'.cell? ⟨b.g,0,none⟩=some (ptr b.B)/\w'.cell? ⟨b.B,18,none⟩=some (ptr b.mb)/\w'.cell? ⟨b.g,1,none⟩=some (.int .i64 r.t)/\w'.cell? ⟨b.g,35,none⟩=some (.int .u64 r.wg)) zk (⟨HY.out.drew.cell 0 (ptr b.B) zf,HY.out.drew.shared 18 (ptr b.mb) zg,HY.out.drew.cell 1 (.int .i64 r.t) zf,HY.out.drew.cell 35 (.int .u64 r.wg) zf⟩) (λhH=>?_);refine zr 0 5 hH ?_;refine zr 1 6 hH ?_;refine zr 2 7 hH ?_;refine zr 3 8 hH ?_;refine zr 4 9 hH ?_;refine zr 5 10 hH ?_;refine zr 6 11 hH ?_;refine zr 7 12 hH ?_;refine zr 8 13 hH ?_;refine zr 9 14 hH ?_;refine zr 10 15 hH ?_;refine zr 11 16 hH ?_;refine zr 12 17 hH ?_;refine zr 13 18 hH ?_;refine zr 14 19 hH ?_;refine zr 15 20 hH ?_
 try simp only[zq]
 refine zrd 16 (λK hK=>?_);go_simp;refine(HY.out.drew.does (λOm h=>Me.jm h r.t (0) r.wg now HN.out HL.out)).mono ?_;rintro e w2 ⟨rfl,hy⟩;refine hK.out _ _ (⟨hy.cell 0 (ptr b.B) zf,hy.shared 18 (ptr b.mb) zg,hy.cell 1 (.int .i64 r.t) zf,hy.cell 35 (.int .u64 r.wg) zf⟩) (λhH=>?_);clear hK K;have H2:=hid hy;clear hy HY
 try simp only[zq]
 refine zr 17 4 hH ?_
 try simp only[zq]
 refine wpAnyH_done zk ?_ _;clear hH;go_wp2_with fail;go_ret;exact⟨rfl,H2.out⟩
theorem gM(H:Y b S r W)(hr:Rm 0 S)(now:Int)(hn:g_ now):Calls Tryz.prog 168 #[ptr b.g,.int .u64 now] W (Yd b (.bool (ay S.ms (r.x) r.wf)) (fG S r (r.x) r.wf now) r):=by
 have HN:=hid hn;clear hn;have HY:=hid H;have HL:Hid (S.ms.ls.length<=1000000000000):=hr.l;clear H hr;go_in;go_wp2_with fail;refine wp_region_held_drew (S:=λw'=>w'.cell? ⟨b.g,0,none⟩=some (ptr b.B)/\w'.cell? ⟨b.B,18,none⟩=some (ptr b.mb)/\w'.cell? ⟨b.g,1,none⟩=some (.int .i64 r.t)/\w'.cell? ⟨b.g,34,none⟩=some (.int .u64 r.wf)/\w'.cell? ⟨b.g,30,none⟩=some (.int .i64 r.x)) zk (⟨HY.out.drew.cell 0 (ptr b.B) zf,HY.out.drew.shared 18 (ptr b.mb) zg,HY.out.drew.cell 1 (.int .i64 r.t) zf,HY.out.drew.cell 34 (.int .u64 r.wf) zf,HY.out.drew.cell 30 (.int .i64 r.x) zf⟩) (λhH=>?_);refine zr 0 5 hH ?_;refine zr 1 6 hH ?_;refine zr 2 7 hH ?_;refine zr 3 8 hH ?_;refine zr 4 9 hH ?_;refine zr 5 10 hH ?_;refine zr 6 11 hH ?_;refine zr 7 12 hH ?_;refine zr 8 13 hH ?_;refine zr 9 14 hH ?_;refine zr 10 15 hH ?_;refine zr 11 16 hH ?_;refine zr 12 17 hH ?_;refine zr 13 18 hH ?_;refine zr 14 19 hH ?_;refine zr 15 20 hH ?_;refine zr 16 21 hH ?_;refine zr 17 22 hH ?_;refine zr 18 23 hH ?_;refine zr 19 24 hH ?_
 try simp only[zq]
 refine zrd 20 (λK hK=>?_);go_simp;refine(HY.out.drew.does (λOm h=>Me.jm h r.t (r.x) r.wf now HN.out HL.out)).mono ?_;rintro e w2 ⟨rfl,hy⟩;refine hK.out _ _ (⟨hy.cell 0 (ptr b.B) zf,hy.shared 18 (ptr b.mb) zg,hy.cell 1 (.int .i64 r.t) zf,hy.cell 34 (.int .u64 r.wf) zf,hy.cell 30 (.int .i64 r.x) zf⟩) (λhH=>?_);clear hK K;have H2:=hid hy;clear hy HY
 try simp only[zq]
 refine zr 21 4 hH ?_
 try simp only[zq]
 refine wpAnyH_done zk ?_ _;clear hH;go_wp2_with fail;go_ret;exact⟨rfl,H2.out⟩
theorem nR{x:Int}(h:g_ x)(W:World)(he:Env W):Calls Tryz.prog 46 #[.int .u64 x] W λe w'=>e = .returned (.agg #[.int .i64 (vG x),.int .i64 (kG x),.int .i64 (cG x)])/\Below W.heap.size W w':=by
 have:=Ga.e_ (l8 h) W he.ga
 rwa [← PB h]at this
theorem qj{x:Int}(h:g_ x)(W:World)(he:Env W):Calls Tryz.prog 205 #[.int .u64 x] W λe w'=>e = .returned (.agg #[.int .i64 (sF x),.int .i64 (nF x),.int .i64 (cF x)])/\Below W.heap.size W w':=by
 have:=Fl.e_ (Gm h) W he.fl
 rwa [← VB h]at this
theorem abX{x:Int}(h:g_ x)(c:Int)(W:World)(he:Env W):Calls Tryz.prog 193 #[.int .u64 x,.int .i64 c] W λe w'=>e = .returned (.bool (PD x c))/\Below W.heap.size W w':=by
 have:=Fl.Kg (Gm h) c W he.fl
 rwa [← VB h]at this
theorem mF{W w':World}(h:∃n,w'=W.drewN n):Below W.heap.size W w':=by
 obtain⟨n,rfl⟩:=h;exact(Below.refl _ W).lW n
theorem KF{x:Int}(h:g_ x)(s u:Int)(W:World)(he:Env W):Calls Tryz.prog 199 #[.int .u64 x,.int .i64 s,.int .i64 u] W λe w'=>e = .returned (.int .u64 (kF x s u))/\Below W.heap.size W w':=by
 have:=Fl.mz (Gm h) s u W he.fl;rw[← VB h]at this;exact this.mono λe w' h=>⟨h.1,mF h.2⟩
theorem KG(W:World)(he:Env W):Calls Tryz.prog 169 #[] W λe w'=>e = .returned (.int .u64 gl)/\Below W.heap.size W w' :=
 (Fl.Kb W he.fl).mono λe w' h=>⟨h.1,mF h.2⟩
theorem Te{x:Int}(h:g_ x)(n:Int)(h0 : -9223372036854775808<=n)(h1:n<=9223372036854775807)(W:World)(he:Env W):Calls Tryz.prog 110 #[.int .u64 x,.int .i64 n] W λe w'=>e = .returned (.int .u64 (js x n))/\Below W.heap.size W w':=by
 have:=Ga.Kl (l8 h) h0 h1 W he.ga;rw[← PB h]at this;exact this.mono λe w' h=>⟨h.1,mF h.2⟩
theorem KH{x:Int}(h:g_ x)(N:Int)(W:World)(he:Env W):Calls Tryz.prog 197 #[.int .u64 x,.int .i64 N] W λe w'=>e = .returned (.tuple #[.int .u64 (cj N x),.bool (jt N x)])/\Below W.heap.size W w':=by
 cases hb:jt N x with
 | true =>
  have h2:=of_decide_eq_true hb
  have:=Ga.xu (l:=N) (l8 h) (ok:=true) (x:=kG x+1) (.inl ⟨rfl,rfl,h2.1,h2.2⟩) W he.ga
  rw[← PB h]at this
  unfold cj;rw[hb];exact this
 | false =>
  have h2:=of_decide_eq_false hb
  have:=Ga.xu (l:=N) (l8 h) (ok:=false) (x:=kG x) (.inr ⟨rfl,rfl,by omega⟩) W he.ga
  unfold cj;rw[hb]
  unfold Ga.xq at this
  rw[← PB h]at this
  exact this
theorem yQ{x:Int}(h:g_ x)(W:World)(he:Env W):Calls Tryz.prog 269 #[.int .u64 x] W λe w'=>e = .returned (.tuple #[.int .u64 (cS x),.bool (decide (kG x≠0))])/\Below W.heap.size W w':=by
 by_cases hb:kG x=0
 ·have:=Ga.aaI (l8 h) (ok:=false) (x:=kG x) (.inr ⟨rfl,rfl,hb⟩) W he.ga;unfold cS;rw[if_pos hb,decide_eq_false (by simpa using hb)];unfold Ga.xq at this;rw[← PB h]at this;exact this
 ·have:=Ga.aaI (l8 h) (ok:=true) (x:=kG x - 1) (.inl ⟨rfl,rfl,hb⟩) W he.ga;unfold cS;rw[if_neg hb,decide_eq_true hb];rw[← PB h]at this;exact this
theorem KI{x:Int}(h:g_ x)(W:World)(he:Env W):Calls Tryz.prog 163 #[.int .u64 x] W λe w'=>e = .returned (.tuple #[.int .u64 (cJ x),.bool (decide (vG x≠4095))])/\Below W.heap.size W w':=by
 by_cases hb:vG x=4095
 ·have:=Ga.jm (l8 h) (ok:=false) (x:=vG x) (.inr ⟨rfl,rfl,hb⟩) W he.ga;unfold cJ;rw[if_pos hb,decide_eq_false (by simpa using hb)];unfold Ga.xq at this;rw[← PB h]at this;exact this
 ·have:=Ga.jm (l8 h) (ok:=true) (x:=vG x+1) (.inl ⟨rfl,rfl,hb⟩) W he.ga;unfold cJ;rw[if_neg hb,decide_eq_true hb];rw[← PB h]at this;exact this
end
end Pg
end Go.Proofs.YtbhnbcadgmagpaaGreatDoor
namespace Go.Proofs.YtbhnbcadgmagpaaGreatDoor
open Go.ChangeShapes Go.WideShapes Go.ChangeAt Go.RowKit Go.aN Go.Lib
namespace Pg
open bg (Ms af bq ay aP ag L4 aH aq ai bD)
open aE (R)
open ak (Ke)
open Me (ptr)
open Tb (UW TM Fw)
section
variable {b:Bs}{W:World}{S:Sh}{r:Rn}
theorem Dq(a b c:Int)(w:World):(Instr.field 45 (.agg #[.int .i64 a,.int .i64 b,.int .i64 c]) 0).run Tryz.prog w = .ok (.int .i64 a) w:=zk
theorem KJ(a b c:Int)(w:World):(Instr.field 45 (.agg #[.int .i64 a,.int .i64 b,.int .i64 c]) 2).run Tryz.prog w = .ok (.int .i64 c) w:=zk
theorem yR(a b c:Int)(w:World):(Instr.field 263 (.agg #[.int .i64 a,.int .i64 b,.int .i64 c]) 0).run Tryz.prog w = .ok (.int .i64 a) w:=zk
theorem xG(H:Y b S r W)(hw:g_ r.wg)(he:Env b.w0):Calls Tryz.prog 194 #[ptr b.g] W (Yd b (.int .i64 (cG r.wg)) S r):=by
 have HU:=hid (nR hw W (H.env he));have HY:=hid H;have x0:=H.cell 35 (.int .u64 r.wg) zf;clear H hw he;go_in;go_wp2_with fail;refine HU.out.mono ?_;rintro e w' ⟨rfl,hb⟩;have H2:=hid (HY.out.next hb);clear hb x0 HY;have g2:=KJ (vG r.wg) (kG r.wg) (cG r.wg);go_wp2_with fail;go_ret;exact⟨rfl,H2.out⟩
theorem fV(H:Y b S r W)(hw:g_ r.wg)(hf:g_ r.wf)(he:Env b.w0):Calls Tryz.prog 145 #[ptr b.g] W (Yd b (.bool (eA r)) S r):=by
 have HC:Hid (∀W,Y b S r W->Calls Tryz.prog 194 #[ptr b.g] W (Yd b (.int .i64 (cG r.wg)) S r)):=λW h=>xG h hw he;have HO:Hid (∀W,Y b S r W->Calls Tryz.prog 193 #[.int .u64 r.wf,.int .i64 (cG r.wg)] W λe w'=>e = .returned (.bool (eA r))/\Below W.heap.size W w'):=λW h=>abX hf _ W (h.env he);have HY:=hid H;obtain⟨z,hz⟩:∃z,eA r=z:=⟨_,rfl⟩;rw[hz]at HO ⊢;clear H hw hf he hz;go_in;go_wp2_with fail;refine wp_region_held_drew (S:=λw'=>w'.cell? ⟨b.g,34,none⟩=some (.int .u64 r.wf)) zk (HY.out.drew.cell 34 (.int .u64 r.wf) zf) (λhH=>?_);refine zr 0 3 hH ?_;refine zr 1 4 hH ?_;refine zr 2 5 hH ?_;refine zr 3 6 hH ?_;refine zr 4 7 hH ?_
 try simp only[zq]
 refine zrd 5 (λK hK=>?_);go_simp;refine(HC.out _ HY.out.drew).mono ?_;rintro e w2 ⟨rfl,hy⟩;refine hK.out _ _ (hy.cell 34 (.int .u64 r.wf) zf) (λhH=>?_);clear hK K;have H2:=hid hy;clear hy HY
 try simp only[zq]
 refine zrd 6 (λK hK=>?_);go_simp;refine(HO.out _ H2.out).mono ?_;rintro e w3 ⟨rfl,hb⟩;refine hK.out _ _ ((H2.out.next hb).cell 34 (.int .u64 r.wf) zf) (λhH=>?_);clear hK K;have H3:=hid (H2.out.next hb);clear hb
 try simp only[zq]
 refine zr 7 2 hH ?_
 try simp only[zq]
 refine wpAnyH_done zk ?_ _;clear hH;go_wp2_with fail;go_ret;exact⟨rfl,H3.out⟩
theorem QM{T:Nat->Int}(h:∀i,-9223372036854775808<=T i/\T i<=9223372036854775807):Fs.Vm #[.int .i64 (T 0),.int .i64 (T 1),.int .i64 (T 2),.int .i64 (T 3),.int .i64 (T 4),.int .i64 (T 5),.int .i64 (T 6),.int .i64 (T 7),.int .i64 (T 8),.int .i64 (T 9),.int .i64 (T 10),.int .i64 (T 11),.int .i64 (T 12),.int .i64 (T 13),.int .i64 (T 14),.int .i64 (T 15)] T :=
 ⟨rfl,λi hi=>by
  rcases(by omega:i=0\/i=1\/i=2\/i=3\/i=4\/i=5\/i=6\/i=7\/i=8\/i=9\/i=10\/i=11\/i=12\/i=13\/i=14\/i=15)with rfl | rfl | rfl | rfl | rfl | rfl | rfl | rfl | rfl | rfl | rfl | rfl | rfl | rfl | rfl | rfl <;> rfl,λi _=>h i⟩
theorem nH(H:Y b S r W)(hw:g_ r.wg)(he:Env b.w0)(hT:∀i,-9223372036854775808<=b.C.T i/\b.C.T i<=9223372036854775807):Calls Tryz.prog 200 #[ptr b.g] W (Yd b (.int .i64 (ju b.C r)) S r):=by
 have HC:Hid (∀W,Y b S r W->Calls Tryz.prog 194 #[ptr b.g] W (Yd b (.int .i64 (cG r.wg)) S r)):=λW h=>xG h hw he;have HO:=hid (λW=>Fs.nH _ _ (QM hT) r.tn (cG r.wg) W);have HY:=hid H;obtain⟨z,hz⟩:∃z,ju b.C r=z:=⟨_,rfl⟩;rw[show Fs.ug b.C.T r.tn (cG r.wg)=z from hz]at HO;rw[hz];clear H hw he hz hT;go_in;go_wp2_with fail;refine wp_region_held_drew (S:=λw'=>w'.cell? ⟨b.g,0,none⟩=some (ptr b.B)/\w'.cell? ⟨b.g,32,none⟩=some (.int .i64 r.tn)/\w'.cell? ⟨b.B,2,none⟩=some (.int .i64 (b.C.T 0))/\w'.cell? ⟨b.B,3,none⟩=some (.int .i64 (b.C.T 1))/\w'.cell? ⟨b.B,4,none⟩=some (.int .i64 (b.C.T 2))/\w'.cell? ⟨b.B,5,none⟩=some (.int .i64 (b.C.T 3))/\w'.cell? ⟨b.B,6,none⟩=some (.int .i64 (b.C.T 4))/\w'.cell? ⟨b.B,7,none⟩=some (.int .i64 (b.C.T 5))/\w'.cell? ⟨b.B,8,none⟩=some (.int .i64 (b.C.T 6))/\w'.cell? ⟨b.B,9,none⟩=some (.int .i64 (b.C.T 7))/\w'.cell? ⟨b.B,10,none⟩=some (.int .i64 (b.C.T 8))/\w'.cell? ⟨b.B,11,none⟩=some (.int .i64 (b.C.T 9))/\w'.cell? ⟨b.B,12,none⟩=some (.int .i64 (b.C.T 10))/\w'.cell? ⟨b.B,13,none⟩=some (.int .i64 (b.C.T 11))/\w'.cell? ⟨b.B,14,none⟩=some (.int .i64 (b.C.T 12))/\w'.cell? ⟨b.B,15,none⟩=some (.int .i64 (b.C.T 13))/\w'.cell? ⟨b.B,16,none⟩=some (.int .i64 (b.C.T 14))/\w'.cell? ⟨b.B,17,none⟩=some (.int .i64 (b.C.T 15))) zk (⟨HY.out.drew.cell 0 (ptr b.B) zf,HY.out.drew.cell 32 (.int .i64 r.tn) zf,HY.out.drew.shared 2 (.int .i64 (b.C.T 0)) zg,HY.out.drew.shared 3 (.int .i64 (b.C.T 1)) zg,HY.out.drew.shared 4 (.int .i64 (b.C.T 2)) zg,HY.out.drew.shared 5 (.int .i64 (b.C.T 3)) zg,HY.out.drew.shared 6 (.int .i64 (b.C.T 4)) zg,HY.out.drew.shared 7 (.int .i64 (b.C.T 5)) zg,HY.out.drew.shared 8 (.int .i64 (b.C.T 6)) zg,HY.out.drew.shared 9 (.int .i64 (b.C.T 7)) zg,HY.out.drew.shared 10 (.int .i64 (b.C.T 8)) zg,HY.out.drew.shared 11 (.int .i64 (b.C.T 9)) zg,HY.out.drew.shared 12 (.int .i64 (b.C.T 10)) zg,HY.out.drew.shared 13 (.int .i64 (b.C.T 11)) zg,HY.out.drew.shared 14 (.int .i64 (b.C.T 12)) zg,HY.out.drew.shared 15 (.int .i64 (b.C.T 13)) zg,HY.out.drew.shared 16 (.int .i64 (b.C.T 14)) zg,HY.out.drew.shared 17 (.int .i64 (b.C.T 15)) zg⟩) (λhH=>?_);refine zr 0 3 hH ?_;refine zr 1 4 hH ?_;refine zr 2 5 hH ?_;refine zr 3 6 hH ?_;refine zr 4 7 hH ?_;refine zr 5 8 hH ?_;refine zr 6 9 hH ?_;refine zr 7 10 hH ?_;refine zr 8 11 hH ?_;refine zr 9 12 hH ?_;refine zr 10 13 hH ?_;refine zr 11 14 hH ?_;refine zr 12 15 hH ?_
 try simp only[zq]
 refine zrd 13 (λK hK=>?_);go_simp;refine(HC.out _ HY.out.drew).mono ?_;rintro e w2 ⟨rfl,hy⟩;refine hK.out _ _ (⟨hy.cell 0 (ptr b.B) zf,hy.cell 32 (.int .i64 r.tn) zf,hy.shared 2 (.int .i64 (b.C.T 0)) zg,hy.shared 3 (.int .i64 (b.C.T 1)) zg,hy.shared 4 (.int .i64 (b.C.T 2)) zg,hy.shared 5 (.int .i64 (b.C.T 3)) zg,hy.shared 6 (.int .i64 (b.C.T 4)) zg,hy.shared 7 (.int .i64 (b.C.T 5)) zg,hy.shared 8 (.int .i64 (b.C.T 6)) zg,hy.shared 9 (.int .i64 (b.C.T 7)) zg,hy.shared 10 (.int .i64 (b.C.T 8)) zg,hy.shared 11 (.int .i64 (b.C.T 9)) zg,hy.shared 12 (.int .i64 (b.C.T 10)) zg,hy.shared 13 (.int .i64 (b.C.T 11)) zg,hy.shared 14 (.int .i64 (b.C.T 12)) zg,hy.shared 15 (.int .i64 (b.C.T 13)) zg,hy.shared 16 (.int .i64 (b.C.T 14)) zg,hy.shared 17 (.int .i64 (b.C.T 15)) zg⟩) (λhH=>?_);clear hK K;have H2:=hid hy;clear hy HY
 try simp only[zq]
 refine zrd 14 (λK hK=>?_);go_simp;refine(HO.out _).mono ?_;rintro e w3 ⟨rfl,hb⟩;refine hK.out _ _ (⟨(H2.out.next hb).cell 0 (ptr b.B) zf,(H2.out.next hb).cell 32 (.int .i64 r.tn) zf,(H2.out.next hb).shared 2 (.int .i64 (b.C.T 0)) zg,(H2.out.next hb).shared 3 (.int .i64 (b.C.T 1)) zg,(H2.out.next hb).shared 4 (.int .i64 (b.C.T 2)) zg,(H2.out.next hb).shared 5 (.int .i64 (b.C.T 3)) zg,(H2.out.next hb).shared 6 (.int .i64 (b.C.T 4)) zg,(H2.out.next hb).shared 7 (.int .i64 (b.C.T 5)) zg,(H2.out.next hb).shared 8 (.int .i64 (b.C.T 6)) zg,(H2.out.next hb).shared 9 (.int .i64 (b.C.T 7)) zg,(H2.out.next hb).shared 10 (.int .i64 (b.C.T 8)) zg,(H2.out.next hb).shared 11 (.int .i64 (b.C.T 9)) zg,(H2.out.next hb).shared 12 (.int .i64 (b.C.T 10)) zg,(H2.out.next hb).shared 13 (.int .i64 (b.C.T 11)) zg,(H2.out.next hb).shared 14 (.int .i64 (b.C.T 12)) zg,(H2.out.next hb).shared 15 (.int .i64 (b.C.T 13)) zg,(H2.out.next hb).shared 16 (.int .i64 (b.C.T 14)) zg,(H2.out.next hb).shared 17 (.int .i64 (b.C.T 15)) zg⟩) (λhH=>?_);clear hK K;have H3:=hid (H2.out.next hb);clear hb
 try simp only[zq]
 refine zr 15 2 hH ?_
 try simp only[zq]
 refine wpAnyH_done zk ?_ _;clear hH;go_wp2_with fail;go_ret;exact⟨rfl,H3.out⟩
theorem QN(H:Y b S r W)(hr:Rm 0 S)(hk:r.k.Ok):Calls Tryz.prog 150 #[ptr b.tb,.int .i64 r.t,.agg #[.int .u32 (r.k.a:Int),.int .u32 (r.k.b:Int),.int .u16 (r.k.p:Int),.int .u16 (r.k.q:Int),.int .u8 (r.k.r:Int)]] W λe w' =>
  (∃ve,e = .returned (.tuple #[.int .i64 (dw b.C S r).x,.bool (dw b.C S r).tu,.bool (mB b.C S r).isSome,.int .i64 ve]))/\Y b (n8 b.C S r 5) r w':=by
 cases hh:hasB b.C S r with
 | false =>
  have e1:n8 b.C S r 5=S:=by unfold n8;rw[hh];rfl
  have e2:mB b.C S r=none:=by unfold mB;rw[hh];rfl
  have e3:dw b.C S r = { r with x:=0,tu:=false }:=by unfold dw;rw[e2]
  rw[e1,e2,e3]
  refine(H.table (fs':=S.fs) (λw Om Ot h=>Tb.NT h r.t r.k hk _ rfl hh)).mono ?_
  rintro e w' ⟨rfl,h⟩
  exact⟨⟨_,rfl⟩,h⟩
 | true =>
  have e1:n8 b.C S r 5 = { S with ms:=ai S.ms r.t 5 ((Tb.gZ b.C.n r.k:Nat):Int) }:=by unfold n8;rw[hh];rfl
  cases hf:bJ.find r.k S.fs with
  | none =>
   have e2:mB b.C S r=none:=by unfold mB;rw[hh,if_pos rfl,hf]
   have e3:dw b.C S r = { r with x:=0,tu:=false }:=by unfold dw;rw[e2]
   rw[e1,e2,e3]
   refine(H.table (fs':=S.fs) (λw Om Ot h=>Tb.Bk h hr.l r.t r.k hk 0 false false _ rfl hh (.inr ⟨hf,rfl,rfl,rfl⟩))).mono ?_
   rintro e w' ⟨rfl,h⟩
   exact⟨⟨_,rfl⟩,h⟩
  | some f =>
   have e2:mB b.C S r=some f:=by unfold mB;rw[hh,if_pos rfl,hf]
   have e3:dw b.C S r = { r with x:=f.x,tu:=f.dn }:=by unfold dw;rw[e2]
   rw[e1,e2,e3]
   refine(H.table (fs':=S.fs) (λw Om Ot h=>Tb.Bk h hr.l r.t r.k hk f.x f.dn true _ rfl hh (.inl ⟨f,hf,rfl,rfl,rfl⟩))).mono ?_
   rintro e w' ⟨rfl,h⟩
   exact⟨⟨_,rfl⟩,h⟩
theorem ES(C:Cf)(S:Sh)(r:Rn):dw C S r = { r with x:=(dw C S r).x,tu:=(dw C S r).tu }:=by unfold dw;cases mB C S r <;> rfl
theorem iW(H:Y b S r W)(hr:Rm 0 S)(hk:r.k.Ok):Calls Tryz.prog 107 #[ptr b.g] W (Yd b (.bool (mB b.C S r).isSome) (n8 b.C S r 5) (dw b.C S r)):=by
 have HF:=hid (QN H.drew hr hk);have HY:=hid H;have e3:=ES b.C S r;obtain⟨x,hx⟩:∃x,(dw b.C S r).x=x:=⟨_,rfl⟩;obtain⟨d,hd⟩:∃x,(dw b.C S r).tu=x:=⟨_,rfl⟩;obtain⟨z,hz⟩:∃x,(mB b.C S r).isSome=x:=⟨_,rfl⟩;rw[hx,hd]at e3;rw[hx,hd,hz]at HF;rw[e3,hz];clear H hr hk hx hd hz e3;go_in;go_wp2_with fail;refine wp_region_held_drew (S:=λw'=>w'.cell? ⟨b.g,0,none⟩=some (ptr b.B)/\w'.cell? ⟨b.B,19,none⟩=some (ptr b.tb)/\w'.cell? ⟨b.g,1,none⟩=some (.int .i64 r.t)/\w'.cell? ⟨b.g,25,none⟩=some (.int .u32 (r.k.a:Int))/\w'.cell? ⟨b.g,26,none⟩=some (.int .u32 (r.k.b:Int))/\w'.cell? ⟨b.g,27,none⟩=some (.int .u16 (r.k.p:Int))/\w'.cell? ⟨b.g,28,none⟩=some (.int .u16 (r.k.q:Int))/\w'.cell? ⟨b.g,29,none⟩=some (.int .u8 (r.k.r:Int))) zk (⟨HY.out.drew.cell 0 (ptr b.B) zf,HY.out.drew.shared 19 (ptr b.tb) zg,HY.out.drew.cell 1 (.int .i64 r.t) zf,HY.out.drew.cell 25 (.int .u32 (r.k.a:Int)) zf,HY.out.drew.cell 26 (.int .u32 (r.k.b:Int)) zf,HY.out.drew.cell 27 (.int .u16 (r.k.p:Int)) zf,HY.out.drew.cell 28 (.int .u16 (r.k.q:Int)) zf,HY.out.drew.cell 29 (.int .u8 (r.k.r:Int)) zf⟩) (λhH=>?_);refine zr 0 8 hH ?_;refine zr 1 9 hH ?_;refine zr 2 10 hH ?_;refine zr 3 11 hH ?_;refine zr 4 12 hH ?_;refine zr 5 13 hH ?_;refine zr 6 14 hH ?_;refine zr 7 15 hH ?_;refine zr 8 16 hH ?_;refine zr 9 17 hH ?_;refine zr 10 18 hH ?_;refine zr 11 19 hH ?_;refine zr 12 20 hH ?_;refine zr 13 21 hH ?_;refine zr 14 22 hH ?_
 try simp only[zq]
 refine zrd 15 (λK hK=>?_);go_simp;refine HF.out.mono ?_;rintro e w2 ⟨⟨ve,rfl⟩,hy⟩;refine hK.out _ _ (⟨hy.cell 0 (ptr b.B) zf,hy.shared 19 (ptr b.tb) zg,hy.cell 1 (.int .i64 r.t) zf,hy.cell 25 (.int .u32 (r.k.a:Int)) zf,hy.cell 26 (.int .u32 (r.k.b:Int)) zf,hy.cell 27 (.int .u16 (r.k.p:Int)) zf,hy.cell 28 (.int .u16 (r.k.q:Int)) zf,hy.cell 29 (.int .u8 (r.k.r:Int)) zf⟩) (λhH=>?_);clear hK K;have H2:=hid hy;clear hy HY HF
 try simp only[zq]
 refine zr 16 7 hH ?_;refine zr 17 24 hH ?_;refine zr 18 25 hH ?_;refine zr 19 26 hH ?_;refine zr 20 27 hH ?_;refine zr 21 3 hH ?_;refine zr 22 4 hH ?_;refine zr 23 5 hH ?_;refine zr 24 6 hH ?_
 try simp only[zq]
 refine wpAnyH_done zk ?_ _;clear hH;have H3:=hid (H2.out.set (r':={ r with x:=x }) 30 (.int .i64 x) zf rfl rfl);have H4:=hid (H3.out.set (r':={ r with x:=x,tu:=d }) 31 (.bool d) zf rfl rfl);have f0:=H2.out.frozen 30;have f1:=H2.out.frozen 31;have c0:=H2.out.cell 30 (.int .i64 r.x) zf;have c1:=H2.out.cell 31 (.bool r.tu) zf;clear H3 H2;go_wp2_with fail;go_ret;exact⟨rfl,H4.out⟩
end
end Pg
end Go.Proofs.YtbhnbcadgmagpaaGreatDoor
namespace Go.Proofs.YtbhnbcadgmagpaaGreatDoor
open Go.ChangeShapes Go.WideShapes Go.ChangeAt Go.RowKit Go.aN Go.Lib
namespace Pg
open bg (Ms af bq ay aP ag L4 aH aq ai bD)
open aE (R)
open ak (Ke)
open Me (ptr)
open Tb (UW TM Fw)
abbrev jy(kd t o a c p q u v n:Int):Array Value:=#[.int .i64 kd,.int .i64 t,.int .i64 o,.int .u32 a,.int .u32 c,.int .u16 p,.int .u16 q,.int .u8 u,.int .i64 v,.int .i64 n]
abbrev ET(w:World)(g:Nat)(kd t o a c p q u v n:Int):World:=((((((((((w.setCell ⟨g,0,none⟩ (.int .i64 kd)).setCell ⟨g,1,none⟩ (.int .i64 t)).setCell ⟨g,2,none⟩ (.int .i64 o)).setCell ⟨g,3,none⟩ (.int .u32 a)).setCell ⟨g,4,none⟩ (.int .u32 c)).setCell ⟨g,5,none⟩ (.int .u16 p)).setCell ⟨g,6,none⟩ (.int .u16 q)).setCell ⟨g,7,none⟩ (.int .u8 u)).setCell ⟨g,8,none⟩ (.int .i64 v)).setCell ⟨g,9,none⟩ (.int .i64 n))
section
variable {w w0:World}{g:Nat}{ty:TypeId}
theorem KL{ZC t0 o0 a0 c0 p0 q0 u0 v0 n0:Int}(H:aF w g (jy ZC t0 o0 a0 c0 p0 q0 u0 v0 n0) ty)(kd t o a c p q u v n:Int):aF (ET w g kd t o a c p q u v n) g (jy kd t o a c p q u v n) ty:=by
 have h0:=H.set' 0 (.int .i64 kd) (cs':=jy kd t0 o0 a0 c0 p0 q0 u0 v0 n0) rfl;have h1:=h0.set' 1 (.int .i64 t) (cs':=jy kd t o0 a0 c0 p0 q0 u0 v0 n0) rfl;have h2:=h1.set' 2 (.int .i64 o) (cs':=jy kd t o a0 c0 p0 q0 u0 v0 n0) rfl;have h3:=h2.set' 3 (.int .u32 a) (cs':=jy kd t o a c0 p0 q0 u0 v0 n0) rfl;have h4:=h3.set' 4 (.int .u32 c) (cs':=jy kd t o a c p0 q0 u0 v0 n0) rfl;have h5:=h4.set' 5 (.int .u16 p) (cs':=jy kd t o a c p q0 u0 v0 n0) rfl;have h6:=h5.set' 6 (.int .u16 q) (cs':=jy kd t o a c p q u0 v0 n0) rfl;have h7:=h6.set' 7 (.int .u8 u) (cs':=jy kd t o a c p q u v0 n0) rfl;have h8:=h7.set' 8 (.int .i64 v) (cs':=jy kd t o a c p q u v n0) rfl;have h9:=h8.set' 9 (.int .i64 n) (cs':=jy kd t o a c p q u v n) rfl;exact h9
theorem vV{B:Nat}(hb:Below B w0 w)(hg:B<=g)(kd t o a c p q u v n:Int):Below B w0 (ET w g kd t o a c p q u v n):=((((((((((hb.setCell (p:=⟨g,0,none⟩) hg _).setCell (p:=⟨g,1,none⟩) hg _).setCell (p:=⟨g,2,none⟩) hg _).setCell (p:=⟨g,3,none⟩) hg _).setCell (p:=⟨g,4,none⟩) hg _).setCell (p:=⟨g,5,none⟩) hg _).setCell (p:=⟨g,6,none⟩) hg _).setCell (p:=⟨g,7,none⟩) hg _).setCell (p:=⟨g,8,none⟩) hg _).setCell (p:=⟨g,9,none⟩) hg _)
theorem mG{kd t o a c p q u v n:Int}(H:aF w g (jy kd t o a c p q u v n) ty):w.cell? ⟨g,0,none⟩=some (.int .i64 kd)/\w.cell? ⟨g,1,none⟩=some (.int .i64 t)/\w.cell? ⟨g,2,none⟩=some (.int .i64 o)/\w.cell? ⟨g,3,none⟩=some (.int .u32 a)/\w.cell? ⟨g,4,none⟩=some (.int .u32 c)/\w.cell? ⟨g,5,none⟩=some (.int .u16 p)/\w.cell? ⟨g,6,none⟩=some (.int .u16 q)/\w.cell? ⟨g,7,none⟩=some (.int .u8 u)/\w.cell? ⟨g,8,none⟩=some (.int .i64 v)/\w.cell? ⟨g,9,none⟩=some (.int .i64 n):=⟨H.cell 0 _ rfl,H.cell 1 _ rfl,H.cell 2 _ rfl,H.cell 3 _ rfl,H.cell 4 _ rfl,H.cell 5 _ rfl,H.cell 6 _ rfl,H.cell 7 _ rfl,H.cell 8 _ rfl,H.cell 9 _ rfl⟩
theorem Gt{kd t o a c p q u v n:Int}(H:aF w g (jy kd t o a c p q u v n) ty):w.frozen? ⟨g,0,none⟩=false/\w.frozen? ⟨g,1,none⟩=false/\w.frozen? ⟨g,2,none⟩=false/\w.frozen? ⟨g,3,none⟩=false/\w.frozen? ⟨g,4,none⟩=false/\w.frozen? ⟨g,5,none⟩=false/\w.frozen? ⟨g,6,none⟩=false/\w.frozen? ⟨g,7,none⟩=false/\w.frozen? ⟨g,8,none⟩=false/\w.frozen? ⟨g,9,none⟩=false:=⟨H.frozen 0,H.frozen 1,H.frozen 2,H.frozen 3,H.frozen 4,H.frozen 5,H.frozen 6,H.frozen 7,H.frozen 8,H.frozen 9⟩
end
section
variable {b:Bs}{W:World}{S:Sh}{r:Rn}
theorem Y.lt(H:Y b S r W):b.g<W.heap.size:=by
 obtain⟨Om,Ot,K,pv,lv,kv,H⟩:=H;exact H.run.lt
theorem EU(H:Y b S r W)(kd t o a c p q u v n:Int):Calls Tryz.prog 83 #[ptr b.g,.agg #[.int .i64 kd,.int .i64 t,.int .i64 o,.int .u32 a,.int .u32 c,.int .u16 p,.int .u16 q,.int .u8 u,.int .i64 v,.int .i64 n]] W λe w'=>e = .returned (.agg (jy kd r.t r.op a c p q u v n))/\Below W.heap.size W w':=by
 have HX:=hid ((aF.box W (jy kd t o a c p q u v n) 89).alloc (.cells (jy 0 0 0 0 0 0 0 0 0 0) 89));have HZ:=hid (aF.n5 W (.cells (jy kd t o a c p q u v n) 89) (jy 0 0 0 0 0 0 0 0 0 0) 89);have HB:=hid (((Below.refl _ W).alloc zl (.cells (jy kd t o a c p q u v n) 89)).alloc zs (.cells (jy 0 0 0 0 0 0 0 0 0 0) 89));have HY:=hid H;clear H;go_in;go_wp2_with fail;obtain⟨W2,jX⟩:∃VV,(W.alloc (.cells (jy kd t o a c p q u v n) 89)).alloc (.cells (jy 0 0 0 0 0 0 0 0 0 0) 89)=VV:=⟨_,rfl⟩;rw[jX]at HX HZ HB ⊢;obtain⟨g,hg⟩:∃v,W.heap.size=v:=⟨_,rfl⟩;have HG:Hid (W.heap.size<=g):=Nat.le_of_eq hg
 have Vj:Hid (W.heap.size<=g+1):=by show _<=_;omega
 rw[hg]at HX HZ ⊢;clear jX hg;refine wp_region_held_drew (S:=λw'=>w'.cell? ⟨b.g,1,none⟩=some (.int .i64 r.t)/\w'.cell? ⟨b.g,2,none⟩=some (.int .i64 r.op)) zk (⟨(HY.out.next HB.out.drew).cell 1 (.int .i64 r.t) zf,(HY.out.next HB.out.drew).cell 2 (.int .i64 r.op) zf⟩) (λhH=>?_);refine zr 0 5 hH ?_;refine zr 1 6 hH ?_;refine zr 2 7 hH ?_;refine zr 3 8 hH ?_;refine zr 4 9 hH ?_;refine zr 5 10 hH ?_;refine zr 6 11 hH ?_;refine zr 7 12 hH ?_;refine zr 8 13 hH ?_
 try simp only[zq]
 refine zrd 9 (λK hK=>?_);obtain⟨UF,hd⟩:∃VV,W2.drew=VV:=⟨_,rfl⟩;have CA:Hid (aF UF g (jy kd t o a c p q u v n) 89):=hd▸hid HX.out.drew;have gN:Hid (aF UF (g+1) (jy 0 0 0 0 0 0 0 0 0 0) 89):=hd▸hid HZ.out.drew;have dF:Hid (Below W.heap.size W UF):=hd▸hid HB.out.drew;rw[hd]at hH ⊢;clear hd HX HZ HB;have c1:=CA.out.cell 1 _ rfl;have f1:=CA.out.frozen 1;go_simp;clear c1 f1;refine hK.out _ _ (⟨(HY.out.next (dF.out.setCell (p:=⟨g,1,none⟩) HG.out _)).cell 1 (.int .i64 r.t) zf,(HY.out.next (dF.out.setCell (p:=⟨g,1,none⟩) HG.out _)).cell 2 (.int .i64 r.op) zf⟩) (λhH=>?_);clear hK K;have p_:=hid (CA.out.set' 1 (.int .i64 r.t) (cs':=jy kd r.t o a c p q u v n) rfl);have dG:=hid (dF.out.setCell (p:=⟨g,1,none⟩) HG.out (.int .i64 r.t));have cK:=hid (gN.out.other g 1 zo (.int .i64 r.t));generalize UF.setCell ⟨g,1,none⟩ (.int .i64 r.t)=W3 at hH p_ dG cK ⊢;clear CA dF gN
 try simp only[zq]
 refine zr 10 14 hH ?_
 try simp only[zq]
 refine zrd 11 (λK hK=>?_);have c1:=p_.out.cell 2 _ rfl;have f1:=p_.out.frozen 2;go_simp;clear c1 f1;refine hK.out _ _ (⟨(HY.out.next (dG.out.setCell (p:=⟨g,2,none⟩) HG.out _)).cell 1 (.int .i64 r.t) zf,(HY.out.next (dG.out.setCell (p:=⟨g,2,none⟩) HG.out _)).cell 2 (.int .i64 r.op) zf⟩) (λhH=>?_);clear hK K;have k8:=hid (p_.out.set' 2 (.int .i64 r.op) (cs':=jy kd r.t r.op a c p q u v n) rfl);have fF:=hid (dG.out.setCell (p:=⟨g,2,none⟩) HG.out (.int .i64 r.op));have eT:=hid (cK.out.other g 2 zo (.int .i64 r.op));generalize W3.setCell ⟨g,2,none⟩ (.int .i64 r.op)=W4 at hH k8 fF eT ⊢;clear p_ dG cK
 try simp only[zq]
 refine wpAnyH_done zk ?_ _;clear hH;obtain⟨x0,x1,x2,x3,x4,x5,x6,x7,x8,x9⟩:=mG k8.out;obtain⟨f0,f1,f2,f3,f4,f5,f6,f7,f8,f9⟩:=Gt eT.out;obtain⟨y0,y1,y2,y3,y4,y5,y6,y7,y8,y9⟩:=mG eT.out;go_wp2_with fail;have HR:=KL eT.out kd r.t r.op a c p q u v n;obtain⟨r0,r1,r2,r3,r4,r5,r6,r7,r8,r9⟩:=mG HR;exact bodyPost_ret (v:=.agg (jy kd r.t r.op a c p q u v n)) (by simp[results,Tryz.results83,go_sem,r0,r1,r2,r3,r4,r5,r6,r7,r8,r9]) rfl ⟨rfl,vV fF.out Vj.out kd r.t r.op a c p q u v n⟩
theorem yS:(Tryz.prog.info? 89).map (λi=>(i.zero,i.size,i.bytes))=some (some (.agg (jy 0 0 0 0 0 0 0 0 0 0)),10,56):=zk
theorem YR.grown{Om Ot K:Nat->Prop}{pv lv kv:Value}{w':World}(H:YR b Om Ot K pv lv kv S r W)(hg:W.grownBy w' pv.ownBlock):w'.cell? ⟨b.g,0,none⟩=some (ptr b.B)/\w'.cell? ⟨b.B,21,none⟩=some pv/\w'.frozen? ⟨b.B,21,none⟩=false/\ar (λj=>pv.ownBlock=some j) W w':=by
 have ho:ar (λj=>pv.ownBlock=some j) W w':=ar.grown hg λk e=>e;have h1:=H.run.only ho λe=>H.dg (.inr (.inr (.inr (.inr e))));have h2:=H.blk.only ho λe=>(H.dp _ e).2.2.1 rfl;exact⟨h1.cell 0 _ rfl,h2.cell 21 _ rfl,h2.frozen 21,ho⟩
theorem KM{Om Ot K:Nat->Prop}{pv lv kv:Value}(H:YR b Om Ot K pv lv kv S r W):b.w0.heap.size<=W.heap.size:=H.az.size
theorem cD(H:Y b S r W)(hr:Rm 0 S)(kd:Int)(k:Ke)(v n:Int):Calls Tryz.prog 44 #[ptr b.g,.agg #[.int .i64 kd,.int .i64 0,.int .i64 0,.int .u32 (k.a:Int),.int .u32 (k.b:Int),.int .u16 (k.p:Int),.int .u16 (k.q:Int),.int .u8 (k.r:Int),.int .i64 v,.int .i64 n]] W (Yd b U (say S r kd k v n) r):=by
 have Sr:Hid (∀W',Y b S r W'->Calls Tryz.prog 83 #[ptr b.g,.agg #[.int .i64 kd,.int .i64 0,.int .i64 0,.int .u32 (k.a:Int),.int .u32 (k.b:Int),.int .u16 (k.p:Int),.int .u16 (k.q:Int),.int .u8 (k.r:Int),.int .i64 v,.int .i64 n]] W' λe w'=>e = .returned (.agg (jy kd r.t r.op (k.a:Int) (k.b:Int) (k.p:Int) (k.q:Int) (k.r:Int) v n))/\Below W'.heap.size W' w'):=λW' h=>EU h kd 0 0 (k.a:Int) (k.b:Int) (k.p:Int) (k.q:Int) (k.r:Int) v n;obtain⟨Om,Ot,K,pv,lv,kv,HR⟩:=H;obtain⟨A,c,rfl,hc1,hc2⟩:=cO HR.pts;have hp:=hr.p;have HX:=hid (aF.box W (jy kd 0 0 (k.a:Int) (k.b:Int) (k.p:Int) (k.q:Int) (k.r:Int) v n) 89)
 have HNX:Hid (¬some W.heap.size=(Value.slice A S.pts.length c).ownBlock):=λe=>by have:=(HR.pts.lt _ e.symm).2;omega
 have H1:=hid (HR.next ((Below.refl _ W).alloc zl (.cells (jy kd 0 0 (k.a:Int) (k.b:Int) (k.p:Int) (k.q:Int) (k.r:Int) v n) 89)));clear HR hr;go_in;go_wp2_with fail;obtain⟨W1,oo⟩:∃VV,W.alloc (.cells (jy kd 0 0 (k.a:Int) (k.b:Int) (k.p:Int) (k.q:Int) (k.r:Int) v n) 89)=VV:=⟨_,rfl⟩;rw[oo]at HX H1 ⊢;obtain⟨gx,hgx⟩:∃VV,W.heap.size=VV:=⟨_,rfl⟩;rw[hgx]at HX HNX ⊢;clear oo hgx;refine iz (S:=λw'=>w'.cell? ⟨b.g,0,none⟩=some (ptr b.B)/\w'.cell? ⟨b.B,21,none⟩=some (.slice A S.pts.length c)/\Hid (aF w' gx (jy kd 0 0 (k.a:Int) (k.b:Int) (k.p:Int) (k.q:Int) (k.r:Int) v n) 89)) 18 zk (⟨(H1.out.next (Below.refl _ W1).drew).run.cell 0 _ rfl,(H1.out.next (Below.refl _ W1).drew).blk.cell 21 _ rfl,hid HX.out.drew⟩) (λhH=>?_);refine eS 0 4 hH ?_;refine eS 1 5 hH ?_;refine eS 2 6 hH ?_;refine eS 3 7 hH ?_;refine eS 4 8 hH ?_;refine eS 5 9 hH ?_;refine eS 6 10 hH ?_;refine eS 7 11 hH ?_;refine eS 8 12 hH ?_;refine eS 9 13 hH ?_;refine eS 10 14 hH ?_;refine eS 11 15 hH ?_
 try simp only[zq]
 refine dU (i:=12) (oi:=⟨some 16,_,_,_,_,_⟩) (v:=?v13) rfl zk zk zk zk zh (Or.inl ⟨rfl,?c13⟩) hH ?r13
 case c13=>(intro w' hS;obtain⟨x0,x1,x2,x3,x4,x5,x6,x7,x8,x9⟩:=mG hS.2.2.out;go_simp;(try with_reducible rfl))
 try simp only[zq]
 refine bu (rs:=[13]) zk zs (eW.cons rfl (λK hK=>?_) (eW.nil));go_simp;refine(Sr.out _ ⟨_,_,_,_,_,_,(H1.out.next (Below.refl _ W1).drew)⟩).mono ?_;rintro e w2 ⟨rfl,hb⟩;have H2:=hid ((H1.out.next (Below.refl _ W1).drew).next hb);have p_:=hid (HX.out.drew.next hb);clear hb H1 HX;refine hK.out _ _ (⟨H2.out.run.cell 0 _ rfl,H2.out.blk.cell 21 _ rfl,p_⟩) (λhH=>?_);clear hK K
 try simp only[zq]
 refine bu (rs:=[14]) zk zs (eW.cons rfl (λK hK=>?_) (eW.nil));go_simp;refine hK.out _ _ (⟨(H2.out.next ((Below.refl _ w2).alloc zl _)).run.cell 0 _ rfl,(H2.out.next ((Below.refl _ w2).alloc zl _)).blk.cell 21 _ rfl,hid (p_.out.alloc _)⟩) (λhH=>?_);clear hK K;have H3:=hid (H2.out.next ((Below.refl _ w2).alloc zl (.cells (jy kd r.t r.op (k.a:Int) (k.b:Int) (k.p:Int) (k.q:Int) (k.r:Int) v n) 89)));have k8:=hid (aF.box w2 (jy kd r.t r.op (k.a:Int) (k.b:Int) (k.p:Int) (k.q:Int) (k.r:Int) v n) 89);clear p_ H2;generalize w2.heap.size=gs at *;generalize w2.alloc (.cells (jy kd r.t r.op (k.a:Int) (k.b:Int) (k.p:Int) (k.q:Int) (k.r:Int) v n) 89)=w3 at *
 try simp only[zq]
 refine bu (rs:=[15]) zk zs (eW.cons rfl (λK hK=>?_) (eW.nil));refine uG b.w0.heap.size (S.pts.length+1) rfl (.tmp 14) (.tmp 18) 52 89 rfl Tryz.underlying52 _ 10 56 yS rfl zo zo _ S.pts.length (rE S.pts) rfl (KM H3.out) H3.out.pts (jy kd r.t r.op (k.a:Int) (k.b:Int) (k.p:Int) (k.q:Int) (k.r:Int) v n).toList rfl (by intro u hu;simp at hu;rcases hu with rfl | rfl | rfl | rfl | rfl | rfl | rfl | rfl | rfl | rfl <;> rfl) gs (Bl k8.out) rfl rfl zo ?_;intro A5 c5 w4 ho hg Tf;change K (Act.put _ (some 19) _) _;have HG:=hid (H3.out.grown hg.out);refine hK.out _ _ (⟨HG.out.1,HG.out.2.1,hid (hH.2.2.out.keep (hg.out.block _ hH.2.2.out.lt (λe=>HNX.out e)))⟩) (λhH=>?_);clear hK K
 try simp only[zq]
 refine ij [17] (i:=16) (oi:=⟨some 20,_,_,_,_,_⟩) (v:=?v14) rfl zk zk zk zk zh (Or.inl ⟨rfl,?c14⟩) hH ?r14
 case c14=>(intro w' _;go_simp;(try with_reducible rfl))
 try simp only[zq]
 refine eS 17 21 hH ?_
 try simp only[zq]
 refine bu (rs:=[18]) zk zs (eW.end_ rfl (λK hK=>?_));have c0:=HG.out.2.1;have f0:=HG.out.2.2.1;go_simp;clear c0 f0;refine hK.out _ _ ?_;clear hK K
 try simp only[zq]
 refine gm zk ?_ _
 have HP:Hid (w4.ownsRow b.w0.heap.size 89 10 (.slice A5 (S.pts.length+1) c5) (S.pts++[(⟨kd,r.t,r.op,k,v,n⟩:Pt)]).length (rE (S.pts++[(⟨kd,r.t,r.op,k,v,n⟩:Pt)]))):=by
  rw[yO,List.length_append];exact ho
 have HV:Hid (∀j,(Value.slice A5 (S.pts.length+1) c5).ownBlock=some j->(Value.slice A S.pts.length c).ownBlock=some j\/w3.heap.size<=j):=λj hj=>by
  rcases Tf.out with h | ⟨g',h,h2,_⟩
  ·exact .inl (h▸hj)
  ·rw[h]at hj;exact .inr (Option.some.inj hj▸h2)
 have HE:=hid (H3.out.yP HG.out.2.2.2 HP.out HV.out);clear hH HG ho hg Tf;go_wp2_with fail;go_end0;exact⟨rfl,_,_,_,_,_,_,HE.out⟩
end
end Pg
end Go.Proofs.YtbhnbcadgmagpaaGreatDoor
namespace Go.Proofs.YtbhnbcadgmagpaaGreatDoor
open Go.ChangeShapes Go.WideShapes Go.ChangeAt Go.RowKit Go.aN Go.Lib
namespace Pg
open bg (Ms af bq ay aP ag L4 aH aq ai bD)
open aE (R)
open ak (Ke)
open Me (ptr)
open Tb (UW TM Fw)
section
variable {b:Bs}{W:World}{S:Sh}{r:Rn}
theorem jY(H:Y b S r W)(hr:Rm 0 S)(kd v n:Int):Calls Tryz.prog 44 #[ptr b.g,.agg #[.int .i64 kd,.int .i64 0,.int .i64 0,.int .u32 0,.int .u32 0,.int .u16 0,.int .u16 0,.int .u8 0,.int .i64 v,.int .i64 n]] W (Yd b U (say S r kd k0 v n) r):=cD H hr kd k0 v n
theorem mH(H:Y b S r W)(hr:Rm 0 S):Calls Tryz.prog 255 #[ptr b.g] W (Yd b U (mC S) (fO S r)):=by
 obtain⟨Om,Ot,K,pv,lv,kv,HR⟩:=H;obtain⟨A,c,rfl,hc1,hc2⟩:=cO HR.pts;have hp:=hr.p;have x0:=HR.run.cell 0 _ rfl;have x1:=HR.blk.cell 21 _ rfl;have x2:=HR.run.cell 33 (.int .i64 (r.mr:Int)) rfl;have f2:=HR.run.frozen 33;have H0:=hid (HR.set (r':=fO S r) 33 (.int .i64 (S.pts.length:Int)) rfl HR.n_ HR.oq);clear HR hr;go_in;go_wp2_with fail;obtain⟨W1,oo⟩:∃VV,W.setCell ⟨b.g,33,none⟩ (.int .i64 (S.pts.length:Int))=VV:=⟨_,rfl⟩;rw[oo]at H0 ⊢;clear oo x0 x1 x2 f2;refine iz (S:=λw'=>w'.cell? ⟨b.g,0,none⟩=some (ptr b.B)/\w'.cell? ⟨b.B,21,none⟩=some (.slice A S.pts.length c)) 16 zk (⟨(H0.out.next (Below.refl _ W1).drew).run.cell 0 _ rfl,(H0.out.next (Below.refl _ W1).drew).blk.cell 21 _ rfl⟩) (λhH=>?_);refine eS 0 13 hH ?_;refine eS 1 14 hH ?_;refine eS 2 15 hH ?_;refine eS 3 16 hH ?_;refine eS 4 17 hH ?_;refine eS 5 18 hH ?_;refine eS 6 19 hH ?_;refine eS 7 20 hH ?_;refine eS 8 21 hH ?_;refine eS 9 22 hH ?_;refine eS 10 23 hH ?_;refine eS 11 24 hH ?_
 try simp only[zq]
 refine bu (rs:=[12]) zk zs (eW.cons rfl (λK hK=>?_) (eW.nil));go_simp;refine hK.out _ _ (⟨((H0.out.next (Below.refl _ W1).drew).next ((Below.refl _ _).alloc zl _)).run.cell 0 _ rfl,((H0.out.next (Below.refl _ W1).drew).next ((Below.refl _ _).alloc zl _)).blk.cell 21 _ rfl⟩) (λhH=>?_);clear hK K;have H3:=hid ((H0.out.next ((Below.refl _ W1).alloc zl (.cells (jy 0 0 0 0 0 0 0 0 0 0) 89))).next (Below.refl _ _).drew);have k8:=hid (aF.box W1 (jy 0 0 0 0 0 0 0 0 0 0) 89).drew;clear H0;generalize W1.heap.size=gs at *;generalize (W1.alloc (.cells (jy 0 0 0 0 0 0 0 0 0 0) 89)).drew=w3 at *
 try simp only[zq]
 refine bu (rs:=[13]) zk zs (eW.cons rfl (λK hK=>?_) (eW.nil));refine uG b.w0.heap.size (S.pts.length+1) rfl (.tmp 23) (.tmp 25) 52 89 rfl Tryz.underlying52 _ 10 56 yS rfl zo zo _ S.pts.length (rE S.pts) rfl (KM H3.out) H3.out.pts (jy 0 0 0 0 0 0 0 0 0 0).toList rfl (by intro u hu;simp at hu;rcases hu with rfl | rfl | rfl | rfl | rfl | rfl | rfl | rfl | rfl | rfl <;> rfl) gs (Bl k8.out) rfl rfl zo ?_;intro A5 c5 w4 ho hg Tf;change K (Act.put _ (some 26) _) _;have HG:=hid (H3.out.grown hg.out);refine hK.out _ _ (⟨HG.out.1,HG.out.2.1⟩) (λhH=>?_);clear hK K
 try simp only[zq]
 refine ij [15] (i:=14) (oi:=⟨some 27,_,_,_,_,_⟩) (v:=?v13) rfl zk zk zk zk zh (Or.inl ⟨rfl,?c13⟩) hH ?r13
 case c13=>(intro w' _;go_simp;(try with_reducible rfl))
 try simp only[zq]
 refine eS 15 28 hH ?_
 try simp only[zq]
 refine bu (rs:=[16]) zk zs (eW.end_ rfl (λK hK=>?_));have c0:=HG.out.2.1;have f0:=HG.out.2.2.1;go_simp;clear c0 f0;refine hK.out _ _ ?_;clear hK K
 try simp only[zq]
 refine gm zk ?_ _
 have HP:Hid (w4.ownsRow b.w0.heap.size 89 10 (.slice A5 (S.pts.length+1) c5) (S.pts++[p0]).length (rE (S.pts++[p0]))):=by
  rw[yO,List.length_append];exact ho
 have HV:Hid (∀j,(Value.slice A5 (S.pts.length+1) c5).ownBlock=some j->(Value.slice A S.pts.length c).ownBlock=some j\/w3.heap.size<=j):=λj hj=>by
  rcases Tf.out with h | ⟨g',h,h2,_⟩
  ·exact .inl (h▸hj)
  ·rw[h]at hj;exact .inr (Option.some.inj hj▸h2)
 have HE:=hid (H3.out.yP HG.out.2.2.2 HP.out HV.out);clear hH HG ho hg Tf;go_wp2_with fail;go_end0;exact⟨rfl,_,_,_,_,_,_,HE.out⟩
theorem gD(H:Y b S r W)(hr:Rm 0 S):Calls Tryz.prog 80 #[ptr b.g] W (Yd b U (jJ S r).1 (jJ S r).2):=by
 have Tg:=hid (jY H.drew hr 8 r.v r.n);have HY:=hid H;clear H hr;go_in;go_wp2_with fail;refine wp_region_held_drew (S:=λw'=>w'.cell? ⟨b.g,8,none⟩=some (.int .i64 r.v)/\w'.cell? ⟨b.g,9,none⟩=some (.int .i64 r.n)) zk (⟨HY.out.drew.cell 8 (.int .i64 r.v) zf,HY.out.drew.cell 9 (.int .i64 r.n) zf⟩) (λhH=>?_);refine zr 0 2 hH ?_;refine zr 1 3 hH ?_;refine zr 2 4 hH ?_;refine zr 3 5 hH ?_;refine zr 4 6 hH ?_;refine zr 5 7 hH ?_;refine zr 6 8 hH ?_;refine zr 7 9 hH ?_;refine zr 8 10 hH ?_;refine zr 9 11 hH ?_;refine zr 10 12 hH ?_;refine zr 11 13 hH ?_
 try simp only[zq]
 refine zrd 12 (λK hK=>?_);go_simp;refine Tg.out.mono ?_;rintro e w2 ⟨rfl,hy⟩;refine hK.out _ _ (⟨hy.cell 8 (.int .i64 r.v) zf,hy.cell 9 (.int .i64 r.n) zf⟩) (λhH=>?_);clear hK K;have H2:=hid hy;clear hy HY Tg
 try simp only[zq]
 refine wpAnyH_done zk ?_ _;clear hH;have H3:=hid (H2.out.set (r':=goto r .done) 3 .nilFunc zf rfl rfl);have H4:=hid (H3.out.set (r':=(jJ S r).2) 6 (.bool true) zf rfl rfl);have f0:=H2.out.frozen 3;have f1:=H2.out.frozen 6;have c0:=H2.out.cell 3 (iB r.at_) zf;have c1:=H2.out.cell 6 (.bool r.en) zf;clear H3 H2;go_wp2_with fail;go_end0;exact⟨rfl,H4.out⟩
theorem sM(H:Y b S r W)(hr:Rm 1 S):Calls Tryz.prog 141 #[ptr b.g] W (Yd b U (eE S r).1 (eE S r).2):=by
 have Tg:=hid (jY H (hr.mono zo) 3 r.v 0);have HE:Hid (∀W,Y b (say S r 3 k0 r.v 0) r W->Calls Tryz.prog 80 #[ptr b.g] W (Yd b U (eE S r).1 (eE S r).2)):=λW h=>gD h (hr.say ..);have x0:=H.cell 8 (.int .i64 r.v) zf;clear H hr;go_in;go_wp2_with fail;refine Tg.out.mono ?_;rintro e w2 ⟨rfl,hy⟩;have H2:=hid hy;clear hy x0 Tg;go_wp2_with fail;refine(HE.out _ H2.out).mono ?_;rintro e w3 ⟨rfl,hy⟩;have H3:=hid hy;clear hy H2;go_wp2_with fail;go_end0;exact⟨rfl,H3.out⟩
end
end Pg
end Go.Proofs.YtbhnbcadgmagpaaGreatDoor
namespace Go.Proofs.YtbhnbcadgmagpaaGreatDoor
open Go.ChangeShapes Go.WideShapes Go.ChangeAt Go.RowKit Go.aN Go.Lib
namespace Pg
open bg (Ms af bq ay aP ag L4 aH aq ai bD)
open aE (R)
open ak (Ke)
open Me (ptr)
open Tb (UW TM Fw)
theorem iv(ps:List Pt):(rE ps).length=ps.length*10:=by
 unfold rE
 induction ps with
 | nil=>rfl
 | cons p ps ih=>rw[List.flatMap_cons,List.length_append,ih];simp;omega
theorem N5(ps:List Pt)(i:Nat)(p:Pt)(hi:i<ps.length):rE (ps.set i p)=(((((((((((rE ps).set (i*10) (.int .i64 p.kd)).set (i*10+1) (.int .i64 p.t)).set (i*10+2) (.int .i64 p.op)).set (i*10+3) (.int .u32 (p.k.a:Int))).set (i*10+4) (.int .u32 (p.k.b:Int))).set (i*10+5) (.int .u16 (p.k.p:Int))).set (i*10+6) (.int .u16 (p.k.q:Int))).set (i*10+7) (.int .u8 (p.k.r:Int))).set (i*10+8) (.int .i64 p.v)).set (i*10+9) (.int .i64 p.n)):=by
 induction ps generalizing i with
 | nil=>simp at hi
 | cons q ps ih =>
  cases i with
  | zero=>simp[rE]
  | succ i =>
   have h:=ih i (by simpa using hi)
   have e:∀j v (l:List Value),(Gr q++l).set ((i+1)*10+j) v=Gr q++l.set (i*10+j) v:=λj v l=>by
    rw[List.set_append_right _ _ zt];congr 2;simp;omega
   have e0:∀v (l:List Value),(Gr q++l).set ((i+1)*10) v=Gr q++l.set (i*10) v:=λv l=>e 0 v l
   show Gr q++rE (ps.set i p)=_
   rw[h]
   show _=List.set (List.set (List.set (List.set (List.set (List.set (List.set (List.set (List.set (List.set (Gr q++rE ps) _ _) _ _) _ _) _ _) _ _) _ _) _ _) _ _) _ _) _ _
   rw[e0,e 1,e 2,e 3,e 4,e 5,e 6,e 7,e 8,e 9]
theorem ik{w:World}{base e size n cap g:Nat}{xs:List Value}(h:w.ownsRow base e size (.slice (some ⟨g,0,none⟩) n cap) n xs)(j:Nat)(hj:j<xs.length):∃u,w.cell? ⟨g,j,none⟩=some u/\w.frozen? ⟨g,j,none⟩=false:=by
 obtain⟨g',c,e1,_,_,_,_,h1,h2⟩:=pX h (List.getElem?_eq_getElem hj);injection e1 with e1
 obtain rfl:g=g':=by injection Option.some.inj e1
 exact⟨_,h1,h2⟩
section
variable {b:Bs}{W:World}{S:Sh}{r:Rn}
theorem yT(H:Y b S r W)(hr:Rm 0 S)(hm:r.mr<S.pts.length)(kd:Int)(k:Ke)(v n:Int):Calls Tryz.prog 299 #[ptr b.g,.agg #[.int .i64 kd,.int .i64 0,.int .i64 0,.int .u32 (k.a:Int),.int .u32 (k.b:Int),.int .u16 (k.p:Int),.int .u16 (k.q:Int),.int .u8 (k.r:Int),.int .i64 v,.int .i64 n]] W (Yd b U { S with pts:=S.pts.set r.mr ⟨kd,r.t,r.op,k,v,n⟩ } r):=by
 have Sr:Hid (∀W',Y b S r W'->Calls Tryz.prog 83 #[ptr b.g,.agg #[.int .i64 kd,.int .i64 0,.int .i64 0,.int .u32 (k.a:Int),.int .u32 (k.b:Int),.int .u16 (k.p:Int),.int .u16 (k.q:Int),.int .u8 (k.r:Int),.int .i64 v,.int .i64 n]] W' λe w'=>e = .returned (.agg (jy kd r.t r.op (k.a:Int) (k.b:Int) (k.p:Int) (k.q:Int) (k.r:Int) v n))/\Below W'.heap.size W' w'):=λW' h=>EU h kd 0 0 (k.a:Int) (k.b:Int) (k.p:Int) (k.q:Int) (k.r:Int) v n;obtain⟨Om,Ot,K,pv,lv,kv,HR⟩:=H;have hp:=hr.p
 obtain⟨gp,c,rfl⟩:∃gp c,pv = .slice (some ⟨gp,0,none⟩) S.pts.length c:=by
  rcases HR.pts.2 with⟨_,h0⟩ | ⟨g,cap,cur,e,_⟩
  ·omega
  ·exact⟨g,cap,e⟩
 obtain⟨hc1,hc2⟩:S.pts.length<=c/\c<=9223372036854775807:=by
  obtain⟨A,c',e,h1,h2⟩:=cO HR.pts;injection e with _ _ e;subst e;exact⟨h1,h2⟩
 have HX:=hid (aF.box W (jy kd 0 0 (k.a:Int) (k.b:Int) (k.p:Int) (k.q:Int) (k.r:Int) v n) 89);have H1:=hid (HR.next ((Below.refl _ W).alloc zl (.cells (jy kd 0 0 (k.a:Int) (k.b:Int) (k.p:Int) (k.q:Int) (k.r:Int) v n) 89)));clear HR hr;go_in;go_wp2_with fail;obtain⟨W1,oo⟩:∃VV,W.alloc (.cells (jy kd 0 0 (k.a:Int) (k.b:Int) (k.p:Int) (k.q:Int) (k.r:Int) v n) 89)=VV:=⟨_,rfl⟩;rw[oo]at HX H1 ⊢;obtain⟨gx,hgx⟩:∃VV,W.heap.size=VV:=⟨_,rfl⟩;rw[hgx]at HX ⊢;clear oo hgx;refine iz (S:=λw'=>w'.cell? ⟨b.g,0,none⟩=some (ptr b.B)/\w'.cell? ⟨b.B,21,none⟩=some (.slice (some ⟨gp,0,none⟩) S.pts.length c)/\w'.cell? ⟨b.g,33,none⟩=some (.int .i64 (r.mr:Int))/\Hid (aF w' gx (jy kd 0 0 (k.a:Int) (k.b:Int) (k.p:Int) (k.q:Int) (k.r:Int) v n) 89)) 15 zk (⟨(H1.out.next (Below.refl _ W1).drew).run.cell 0 _ rfl,(H1.out.next (Below.refl _ W1).drew).blk.cell 21 _ rfl,(H1.out.next (Below.refl _ W1).drew).run.cell 33 _ rfl,hid HX.out.drew⟩) (λhH=>?_);refine eS 0 4 hH ?_;refine eS 1 5 hH ?_;refine eS 2 6 hH ?_;refine eS 3 7 hH ?_;refine eS 4 8 hH ?_;refine eS 5 9 hH ?_;refine eS 6 10 hH ?_;refine eS 7 11 hH ?_;refine eS 8 12 hH ?_;refine eS 9 13 hH ?_;refine eS 10 14 hH ?_;refine eS 11 15 hH ?_
 try simp only[zq]
 refine dU (i:=12) (oi:=⟨some 16,_,_,_,_,_⟩) (v:=?v13) rfl zk zk zk zk zh (Or.inl ⟨rfl,?c13⟩) hH ?r13
 case c13=>(intro w' hS;obtain⟨x0,x1,x2,x3,x4,x5,x6,x7,x8,x9⟩:=mG hS.2.2.2.out;go_simp;(try with_reducible rfl))
 try simp only[zq]
 refine bu (rs:=[13]) zk zs (eW.cons rfl (λK hK=>?_) (eW.nil));go_simp;refine(Sr.out _ ⟨_,_,_,_,_,_,(H1.out.next (Below.refl _ W1).drew)⟩).mono ?_;rintro e w2 ⟨rfl,hb⟩;have H2:=hid ((H1.out.next (Below.refl _ W1).drew).next hb);have p_:=hid (HX.out.drew.next hb);clear hb H1 HX;refine hK.out _ _ (⟨H2.out.run.cell 0 _ rfl,H2.out.blk.cell 21 _ rfl,H2.out.run.cell 33 _ rfl,p_⟩) (λhH=>?_);clear hK K
 try simp only[zq]
 refine eS 14 18 hH ?_
 try simp only[zq]
 refine bu (rs:=[15]) zk zs (eW.end_ rfl (λK hK=>?_));obtain⟨u0,c0,f0⟩:=ik H2.out.pts (r.mr*10) (by rw[iv];omega);obtain⟨u1,c1,f1⟩:=ik H2.out.pts (r.mr*10+1) (by rw[iv];omega);obtain⟨u2,c2,f2⟩:=ik H2.out.pts (r.mr*10+2) (by rw[iv];omega);obtain⟨u3,c3,f3⟩:=ik H2.out.pts (r.mr*10+3) (by rw[iv];omega);obtain⟨u4,c4,f4⟩:=ik H2.out.pts (r.mr*10+4) (by rw[iv];omega);obtain⟨u5,c5,f5⟩:=ik H2.out.pts (r.mr*10+5) (by rw[iv];omega);obtain⟨u6,c6,f6⟩:=ik H2.out.pts (r.mr*10+6) (by rw[iv];omega);obtain⟨u7,c7,f7⟩:=ik H2.out.pts (r.mr*10+7) (by rw[iv];omega);obtain⟨u8,c8,f8⟩:=ik H2.out.pts (r.mr*10+8) (by rw[iv];omega);obtain⟨u9,c9,f9⟩:=ik H2.out.pts (r.mr*10+9) (by rw[iv];omega);go_simp;clear c0 f0 c1 f1 c2 f2 c3 f3 c4 f4 c5 f5 c6 f6 c7 f7 c8 f8 c9 f9;refine hK.out _ _ ?_;clear hK K
 try simp only[zq]
 refine gm zk ?_ _;clear hH;have s0:=World.ownsRow.stored H2.out.pts (r.mr*10) (.int .i64 kd);have s1:=World.ownsRow.stored s0.1 (r.mr*10+1) (.int .i64 r.t);have s2:=World.ownsRow.stored s1.1 (r.mr*10+2) (.int .i64 r.op);have s3:=World.ownsRow.stored s2.1 (r.mr*10+3) (.int .u32 (k.a:Int));have s4:=World.ownsRow.stored s3.1 (r.mr*10+4) (.int .u32 (k.b:Int));have s5:=World.ownsRow.stored s4.1 (r.mr*10+5) (.int .u16 (k.p:Int));have s6:=World.ownsRow.stored s5.1 (r.mr*10+6) (.int .u16 (k.q:Int));have s7:=World.ownsRow.stored s6.1 (r.mr*10+7) (.int .u8 (k.r:Int));have s8:=World.ownsRow.stored s7.1 (r.mr*10+8) (.int .i64 v);have s9:=World.ownsRow.stored s8.1 (r.mr*10+9) (.int .i64 n);have hp2:=N5 S.pts r.mr ⟨kd,r.t,r.op,k,v,n⟩ hm;have ho:=(((((((((((ar.refl (λj=>(Value.slice (some ⟨gp,0,none⟩) S.pts.length c).ownBlock=some j) w2).setCell (p:=⟨gp,r.mr*10,none⟩) (.inl rfl) (.int .i64 kd)).setCell (p:=⟨gp,r.mr*10+1,none⟩) (.inl rfl) (.int .i64 r.t)).setCell (p:=⟨gp,r.mr*10+2,none⟩) (.inl rfl) (.int .i64 r.op)).setCell (p:=⟨gp,r.mr*10+3,none⟩) (.inl rfl) (.int .u32 (k.a:Int))).setCell (p:=⟨gp,r.mr*10+4,none⟩) (.inl rfl) (.int .u32 (k.b:Int))).setCell (p:=⟨gp,r.mr*10+5,none⟩) (.inl rfl) (.int .u16 (k.p:Int))).setCell (p:=⟨gp,r.mr*10+6,none⟩) (.inl rfl) (.int .u16 (k.q:Int))).setCell (p:=⟨gp,r.mr*10+7,none⟩) (.inl rfl) (.int .u8 (k.r:Int))).setCell (p:=⟨gp,r.mr*10+8,none⟩) (.inl rfl) (.int .i64 v)).setCell (p:=⟨gp,r.mr*10+9,none⟩) (.inl rfl) (.int .i64 n));have HE:=hid (H2.out.fill (ps:=S.pts.set r.mr ⟨kd,r.t,r.op,k,v,n⟩) ho (by rw[hp2,List.length_set];exact s9.1));clear s0 s1 s2 s3 s4 s5 s6 s7 s8 s9 hp2 ho;go_wp2_with fail;go_end0;exact⟨rfl,_,_,_,_,_,_,HE.out⟩
end
end Pg
end Go.Proofs.YtbhnbcadgmagpaaGreatDoor
namespace Go.Proofs.YtbhnbcadgmagpaaGreatDoor
open Go.ChangeShapes Go.WideShapes Go.ChangeAt Go.RowKit Go.aN Go.Lib
namespace Pg
open bg (Ms)
open aE (R)
open ak (Ke)
open Me (ptr)
open Tb (UW TM Fw)
structure SR(b:Bs)(Om Ot K:Nat->Prop)(pv:Value)(S:Sh)(W:World):Prop where
 mem:Me.kA W Om b.mb S.ms
 dr:UW W Ot b.tb b.mb b.C.n S.fs
 blk:aF W b.B (MZ b.C b.mb b.tb b.rm pv) 83
 map:iK W K b.rm S.rl
 pts:W.ownsRow b.w0.heap.size 89 10 pv S.pts.length (rE S.pts)
 az:Below b.w0.heap.size b.w0 W
 nm:∀j,Om j->b.w0.heap.size<=j
 nt:∀j,Ot j->b.w0.heap.size<=j
 nb:b.w0.heap.size<=b.B
 nr:b.w0.heap.size<=b.rm
 tC:∀j,Om j->¬Ot j
 dm : ¬Om b.B/\¬Om b.rm
 dt : ¬Ot b.B/\¬Ot b.rm
 br:b.B≠b.rm
 dp:∀j,pv.ownBlock=some j->¬Om j/\¬Ot j/\j≠b.B/\j≠b.rm
 dk:∀j,K j->¬Own Om Ot b.B b.rm pv j/\j<W.heap.size
structure RB(b:Bs)(Om Ot K:Nat->Prop)(pv:Value)(g:Nat)(lv kv:Value)(r:Rn)(W:World):Prop where
 run:aF W g (n9 b.B r lv kv) 97
 n_:Lv W K lv r.li
 oq:Kv W K kv r.ks
 ng:b.w0.heap.size<=g
 dg : ¬Own Om Ot b.B b.rm pv g
 nk : ¬K g
def RA(b:Bs)(Om Ot K:Nat->Prop)(pv:Value)(g:Nat)(r:Rn)(W:World):Prop:=∃lv kv,RB b Om Ot K pv g lv kv r W
def Bs.at_(b:Bs)(g:Nat)(W:World)(O K:Nat->Prop):Bs:={ b with g:=g,W:=W,O:=O,K:=K }
section
variable {b:Bs}{W w':World}{Om Ot K jG tD K':Nat->Prop}{pv lY lv kv:Value}{S S':Sh}{r r2 r':Rn}{g g2:Nat}
theorem SR.lt(H:SR b Om Ot K pv S W){j:Nat}(hj:Own Om Ot b.B b.rm pv j):j<W.heap.size:=by
 rcases hj with h | h | rfl | rfl | h
 ·exact H.mem.lt j h
 ·exact H.dr.C4 j h
 ·exact H.blk.lt
 ·exact H.map.lt
 ·exact(H.pts.lt j h).2
theorem SR.next(H:SR b Om Ot K pv S W)(hb:Below W.heap.size W w'):SR b Om Ot K pv S w' :=
 {mem:=H.mem.next hb,dr:=H.dr.next hb,blk:=H.blk.next hb,map:=H.map.only (ar.aS (O:=λ_=>False) hb) (λe=>e) λ_ _ e=>e
  pts:=bf H.pts λg e=>hb.block g (H.pts.lt g e).2
  az:=H.az.trans (hb.mono H.az.size)
  nm:=H.nm,nt:=H.nt,nb:=H.nb,nr:=H.nr,tC:=H.tC,dm:=H.dm,dt:=H.dt,br:=H.br,dp:=H.dp
  dk:=λj hj=>⟨(H.dk j hj).1,Nat.lt_of_lt_of_le (H.dk j hj).2 hb.size⟩ }
theorem RB.next(H:RB b Om Ot K pv g lv kv r W)(hb:Below W.heap.size W w'):RB b Om Ot K pv g lv kv r w' :=
 ⟨H.run.next hb,H.n_.only (ar.aS (O:=λ_=>False) hb) λ_ _ e=>e,H.oq.only (ar.aS (O:=λ_=>False) hb) λ_ _ e=>e,H.ng,H.dg,H.nk⟩
theorem RA.next(H:RA b Om Ot K pv g r W)(hb:Below W.heap.size W w'):RA b Om Ot K pv g r w':=by
 obtain⟨lv,kv,h⟩:=H;exact⟨lv,kv,h.next hb⟩
theorem SR.iL(H:SR b Om Ot K pv S W)(h:RA b Om Ot K pv g r W):Y (b.at_ g W (Own Om Ot b.B b.rm pv) K) S r W:=by
 obtain⟨lv,kv,h⟩:=h
 exact⟨Om,Ot,K,pv,lv,kv,
 {mem:=H.mem,dr:=H.dr,blk:=H.blk,map:=H.map,pts:=H.pts,run:=h.run,n_:=h.n_,oq:=h.oq,az:=H.az
  nm:=H.nm,nt:=H.nt,nb:=H.nb,nr:=H.nr,ng:=h.ng,tC:=H.tC,dm:=H.dm,dt:=H.dt,br:=H.br,dp:=H.dp,dg:=h.dg
  dk:=λj hj=>⟨(H.dk j hj).1,λe=>h.nk ((show j=g from e)▸hj),(H.dk j hj).2⟩
  Gs:=ar.refl _ W,og:=λj hj=>.inl hj,kg:=λj hj=>hj,kn:=λj hj=>.inl hj }⟩
theorem SR.done(H:SR b Om Ot K pv S W)(h:RA b Om Ot K pv g r W)(hy:Y (b.at_ g W (Own Om Ot b.B b.rm pv) K) S' r' w') :
  ∃jG tD K' lY,SR b jG tD K' lY S' w'/\RA b jG tD K' lY g r' w'/\(∀g2 r2,g2≠g->RA b Om Ot K pv g2 r2 W->RA b jG tD K' lY g2 r2 w')/\Below b.w0.heap.size b.w0 w':=by
 obtain⟨jG,tD,K',lY,lv,kv,Y⟩:=hy
 have hK:∀j,K j->¬(Own Om Ot b.B b.rm pv j\/j=g):=λj hj e=>e.elim (H.dk j hj).1 λe=>by
  obtain⟨_,_,h⟩:=h;exact h.nk (e▸hj)
 refine⟨jG,tD,K',lY,
  {mem:=Y.mem,dr:=Y.dr,blk:=Y.blk,map:=Y.map,pts:=Y.pts,az:=Y.az,nm:=Y.nm,nt:=Y.nt,nb:=Y.nb,nr:=Y.nr,tC:=Y.tC,dm:=Y.dm,dt:=Y.dt,br:=Y.br,dp:=Y.dp
   dk:=λj hj=>⟨(Y.dk j hj).1,(Y.dk j hj).2.2⟩ },
  ⟨lv,kv,Y.run,Y.n_,Y.oq,Y.ng,Y.dg,λe=>(Y.dk g e).2.1 rfl⟩,λg2 r2 hne h2=>?_,Y.az⟩
 obtain⟨VF,VG,h2⟩:=h2
 have hlt:=h2.run.lt
 exact⟨VF,VG,h2.run.only Y.Gs λe=>e.elim h2.dg hne,(h2.n_.only Y.Gs hK).mono Y.kg,(h2.oq.only Y.Gs hK).mono Y.kg,h2.ng,
  λe=>(Y.og g2 e).elim h2.dg λe=>(by have:W.heap.size<=g2:=e;omega),λe=>(Y.kn g2 e).elim h2.nk λe=>(by have:W.heap.size<=g2:=e;omega)⟩
end
end Pg
end Go.Proofs.YtbhnbcadgmagpaaGreatDoor
namespace Go.Proofs.YtbhnbcadgmagpaaGreatDoor
open Go.ChangeShapes Go.WideShapes Go.ChangeAt Go.RowKit Go.aN Go.Lib
namespace Pg
open bg (Ms af bq ay aP ag L4 aH aq ai bD)
open aE (R)
open ak (Ke)
open Me (ptr)
open Tb (UW TM Fw)
section
variable {b:Bs}{W:World}{Om Ot K:Nat->Prop}{pv lv kv:Value}{S:Sh}{r:Rn}{g:Nat}
abbrev ou(e v n:Int):Array Value:=#[.int .i64 e,.int .i64 v,.int .i64 n]
def eU(r:Rn):Value:=if r.en then .tuple #[.agg (ou r.e r.v r.n),.bool true]else .tuple #[.agg (ou 0 0 0),.bool false]
theorem ae(w:World)(o:Obj):Below w.heap.size w (w.alloc o):=(Below.refl _ w).alloc zl o
theorem KV(H:RB b Om Ot K pv g lv kv r W):Calls Tryz.prog 17 #[ptr g] W λe w'=>e = .returned (eU r)/\Below W.heap.size W w':=by
 have H1:=H.next (ae W (.cells (ou 0 0 0) 49));have y6:=H1.run.cell 6 (.bool r.en) rfl;have y7:=H1.run.cell 7 (.int .i64 r.e) rfl;have y8:=H1.run.cell 8 (.int .i64 r.v) rfl;have y9:=H1.run.cell 9 (.int .i64 r.n) rfl;clear H H1;unfold eU
 cases he:r.en with
 | false =>
  rw[he]at y6
  clear he
  go_in
  go_wp2_with fail
  have HR:=aF.box W (ou 0 0 0) 49
  have r0:=HR.cell 0 _ rfl
  have r1:=HR.cell 1 _ rfl
  have r2:=HR.cell 2 _ rfl
  exact bodyPost_ret (v:=.tuple #[.agg (ou 0 0 0),.bool false]) (by simp[results,Tryz.results17,go_sem,r0,r1,r2]) rfl ⟨rfl,ae W _⟩
 | true =>
  rw[he]at y6
  clear he
  go_in
  go_wp2_with fail
  have HR:=aF.box W (ou r.e r.v r.n) 49
  have r0:=HR.cell 0 _ rfl
  have r1:=HR.cell 1 _ rfl
  have r2:=HR.cell 2 _ rfl
  exact bodyPost_ret (v:=.tuple #[.agg (ou r.e r.v r.n),.bool true]) (by simp[results,Tryz.results17,go_sem,r0,r1,r2]) rfl ⟨rfl,ae W _⟩
theorem SR.env(H:SR b Om Ot K pv S W)(he:Env b.w0):Env W:=he.below H.az
theorem SR.word(H:SR b Om Ot K pv S W)(i:Int):g_ (af S.ms i):=by
 have h:=H.mem.2;unfold bg.af;split
 ·rename_i hb;obtain⟨j,rfl,hj⟩:=bg.c_ hb;exact h.Vf hj
 ·exact⟨by omega,by omega⟩
abbrev jI(v k c:Int):Array Value:=#[.int .i64 v,.int .i64 k,.int .i64 c]
theorem KW(H:SR b Om Ot K pv S W)(he:Env b.w0):Calls Tryz.prog 16 #[ptr b.B] W λe w'=>e = .returned (.agg (jI (vG (af S.ms 0)) (kG (af S.ms 0)) (cG (af S.ms 0))))/\Below W.heap.size W w':=by
 have H1:=hid (H.next (ae W (.cells (jI 0 0 0) 45)));have HW:=hid (H.word 0);have HE:=hid he;have y0:=H1.out.blk.cell 18 (ptr b.mb) rfl;have HZ:=hid (aF.box W (jI 0 0 0) 45);have HB:=hid (ae W (.cells (jI 0 0 0) 45));clear H he;go_in;go_wp2_with fail;refine(Me.jl H1.out.mem 0).mono ?_;rintro e w1 ⟨rfl,rfl⟩;clear y0;go_wp2_with fail;refine(nR HW.out _ (H1.out.env HE.out)).mono ?_;rintro e w2 ⟨rfl,hb⟩;have dG:=hid (HB.out.trans (hb.mono HB.out.size));have cK:=hid (HZ.out.next hb);clear hb HZ HB H1;have f0:=cK.out.frozen 0;have f1:=cK.out.frozen 1;have f2:=cK.out.frozen 2;have c0:=cK.out.cell 0 _ rfl;have c1:=cK.out.cell 1 _ rfl;have c2:=cK.out.cell 2 _ rfl;go_wp2_with fail;have h0:=cK.out.set' 0 (.int .i64 (vG (af S.ms 0))) (cs':=jI (vG (af S.ms 0)) 0 0) rfl;have h1:=h0.set' 1 (.int .i64 (kG (af S.ms 0))) (cs':=jI (vG (af S.ms 0)) (kG (af S.ms 0)) 0) rfl;have h2:=h1.set' 2 (.int .i64 (cG (af S.ms 0))) (cs':=jI (vG (af S.ms 0)) (kG (af S.ms 0)) (cG (af S.ms 0))) rfl;have r0:=h2.cell 0 _ rfl;have r1:=h2.cell 1 _ rfl;have r2:=h2.cell 2 _ rfl;exact bodyPost_ret (v:=.agg (jI (vG (af S.ms 0)) (kG (af S.ms 0)) (cG (af S.ms 0)))) (by simp[results,Tryz.results16,go_sem,r0,r1,r2]) rfl ⟨rfl,((dG.out.setCell (p:=⟨W.heap.size,0,none⟩) zl _).setCell (p:=⟨W.heap.size,1,none⟩) zl _).setCell (p:=⟨W.heap.size,2,none⟩) zl _⟩
theorem yA(H:SR b Om Ot K pv S W)(hl:S.ms.ls.length<=1000000000000):Calls Tryz.prog 20 #[ptr b.B] W (Me.yz W S.ms.ls):=by
 have HL:=hid (Me.yA H.mem hl);have y0:=H.blk.cell 18 (ptr b.mb) rfl;clear H hl;go_in;go_wp2_with fail;refine HL.out.mono ?_;rintro e w1 ⟨v,rfl,h1,h2,h3⟩;have HV:Hid (Me.QA w1 w1.heap.size v S.ms.ls/\(∀g,v.ownBlock=some g->W.heap.size<=g)/\Below W.heap.size W w1):=⟨h1,h2,h3⟩;clear h1 h2 h3 y0 HL;go_wp2_with fail;go_ret;exact⟨v,rfl,HV.out⟩
theorem aaW(W:World):Calls Tryz.prog 18 #[.pointer none] W λe w'=>e = .returned (.bool false)/\Below W.heap.size W w':=by
 go_in;go_wp2_with fail;refine wp_region_held_drew (S:=λw'=>Hid (Below W.heap.size W w')) zk (hid (Below.refl _ W).drew) (λhH=>?_);refine zr 0 3 hH ?_;refine zr 1 4 hH ?_;refine zr 2 5 hH ?_
 try simp only[zq]
 refine zqp 3 (some 6) rfl rfl hH ?_
 try simp only[zq]
 refine zqp 4 (some 7) rfl rfl hH ?_
 try simp only[zq]
 refine zqp 5 (some 8) rfl rfl hH ?_
 try simp only[zq]
 refine zqp 6 (some 9) rfl rfl hH ?_
 try simp only[zq]
 refine zqp 7 (some 10) rfl rfl hH ?_
 try simp only[zq]
 refine zr 8 11 hH ?_;refine zr 9 12 hH ?_
 try simp only[zq]
 refine zqp 10 (some 13) rfl rfl hH ?_
 try simp only[zq]
 refine zqp 11 (some 14) rfl rfl hH ?_
 try simp only[zq]
 refine zqp 12 (some 15) rfl rfl hH ?_
 try simp only[zq]
 refine zqp 13 (some 16) rfl rfl hH ?_
 try simp only[zq]
 refine zqp 14 (some 17) rfl rfl hH ?_
 try simp only[zq]
 refine zqp 15 (some 18) rfl rfl hH ?_
 try simp only[zq]
 refine zqp 16 (some 19) rfl rfl hH ?_
 try simp only[zq]
 refine zqp 17 (some 20) rfl rfl hH ?_
 try simp only[zq]
 refine zqp 18 (some 21) rfl rfl hH ?_
 try simp only[zq]
 refine zqp 19 (some 22) rfl rfl hH ?_
 try simp only[zq]
 refine zqp 20 (some 23) rfl rfl hH ?_
 try simp only[zq]
 refine zqp 21 (some 24) rfl rfl hH ?_
 try simp only[zq]
 refine zqp 22 (some 25) rfl rfl hH ?_
 try simp only[zq]
 refine zr 23 26 hH ?_;refine zr 24 2 hH ?_
 try simp only[zq]
 refine wpAnyH_done zk ?_ _;have HB:=hid hH.out;clear hH;go_wp2_with fail;go_ret;exact⟨rfl,HB.out⟩
theorem aby(W:World):Calls Tryz.prog 14 #[.pointer none] W λe w'=>e = .returned (.bool false)/\W=w':=by
 go_in;go_wp2_with fail;go_ret;exact⟨rfl,rfl⟩
end
end Pg
end Go.Proofs.YtbhnbcadgmagpaaGreatDoor
