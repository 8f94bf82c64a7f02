import Derived.Test.YtbhnbcadgmagpaaGreatDoorBig
import Derived.Test.YtbhnbcadgmagpaaGreatDoorJ1
import Derived.Test.YtbhnbcadgmagpaaGreatDoorJ16
import Derived.Test.YtbhnbcadgmagpaaGreatDoorJ27
set_option linter.unusedVariables false
set_option linter.unusedSimpArgs false
namespace Go.Proofs.YtbhnbcadgmagpaaGreatDoor
namespace Pg
open bg (Ms af bq ay aP ag L4 aH aq d_ ai bD has at_)
open aE (R)
open iw (K fst j3)
open ak (Ke)
open Tb (gZ eR upd)
open bJ (find dN)
section
variable {s:Ms}{t i j:Int}
theorem Io:af (bq s t i) j=af s j:=by unfold bq;split <;> rfl
theorem Iq:ag (bq s t i) j=ag s j:=by unfold bq;split <;> rfl
theorem vA(k:Int):af (ai s t k i) j=af s j:=by unfold ai;split <;> rfl
theorem vB(k:Int):ag (ai s t k i) j=ag s j:=by unfold ai;split <;> rfl
theorem rU:af (aH s t i) j=af s j:=by unfold aH;split <;> rfl
theorem sQ:af (aq s t i) j=af s j:=by unfold aq;split <;> rfl
theorem kW(o x:Int):ag (aP s t i o x) j=ag s j:=by unfold aP;split;split <;> rfl;rfl
theorem Ir(x:Int):ag (bD s x) j=ag s j:=rfl
theorem D_{l:List Int}{i j x:Int}(hi:has l.length i=true)(hj:0<=j):at_ (l.set i.toNat x) j=if j=i then x else at_ l j:=by
 obtain⟨a,rfl,ha⟩:=bg.c_ hi;have:(j.toNat=a)↔(j=(a:Int)):=zo;unfold at_;simp only[List.getD,Int.toNat_natCast,List.getElem?_set];by_cases e:j=(a:Int)
 ·subst e;simp[ha]
 ·rw[if_neg zo,if_neg e]
theorem qC(o x:Int)(h:ay s i o=false):af (aP s t i o x) j=af s j:=by
 unfold aP;unfold ay at h;split
 ·rename_i hh;rw[hh,Bool.true_and]at h;rw[if_neg (by simpa using h)];rfl
 ·rfl
theorem oA(o x:Int)(h:ay s i o=true):af (aP s t i o x) j=if j=i then x else af s j:=by
 unfold ay at h;simp only[Bool.and_eq_true,beq_iff_eq]at h;unfold aP;rw[if_pos h.1,if_pos h.2];unfold af bg.say;simp only[List.length_set];by_cases hj:has s.ws.length j=true
 ·rw[if_pos hj,if_pos hj];exact D_ h.1 (by have:=of_decide_eq_true hj;omega)
 ·rw[if_neg hj,if_neg hj];by_cases e:j=i
  ·subst e;exact absurd h.1 hj
  ·rw[if_neg e]
theorem zI(o x:Int)(h:j≠i):af (aP s t i o x) j=af s j:=by
 cases hb:ay s i o with
 | true=>rw[oA o x hb,if_neg h]
 | false=>exact qC o x hb
theorem Md{o:Int}(h:ay s i o=true):af s i=o:=by
 unfold ay at h;simp only[Bool.and_eq_true,beq_iff_eq]at h;unfold af;rw[if_pos h.1];exact h.2
theorem Is(x:Int)(h:j<s.ws.length):af (bD s x) j=af s j:=by
 unfold af bD has;simp only[List.length_append,List.length_cons,List.length_nil];by_cases h0:0<=j
 ·rw[if_pos zt,if_pos zt];unfold at_;simp only[List.getD];rw[List.getElem?_append_left zo]
 ·rw[if_neg zt,if_neg zt]
theorem It(h:L4 s t i=true):ag (aH s t i) j=if j=i then t else ag s j:=by
 have h':=h;unfold L4 at h';simp only[Bool.and_eq_true,beq_iff_eq,decide_eq_true_eq]at h';unfold aH;rw[if_pos h];unfold ag bg.say;simp only[List.length_set];by_cases hj:has s.hs.length j=true
 ·rw[if_pos hj,if_pos hj];exact D_ h'.1.2 (by have:=of_decide_eq_true hj;omega)
 ·rw[if_neg hj,if_neg hj];by_cases e:j=i
  ·subst e;exact absurd h'.1.2 hj
  ·rw[if_neg e]
theorem Iu(h:L4 s t i=true):ag s i=-1:=by
 unfold L4 at h;simp only[Bool.and_eq_true,beq_iff_eq,decide_eq_true_eq]at h;unfold ag;rw[if_pos h.1.2];exact h.2
theorem Mf(h:ag s i≠-1):has s.hs.length i=true:=by
 unfold ag at h;split at h
 ·assumption
 ·exact absurd rfl h
theorem Ce(h:ag s i=t)(ht:0<=t):ag (aq s t i) j=if j=i then -1 else ag s j:=by
 have hh:has s.hs.length i=true:=Mf zo
 have ha:at_ s.hs i=t:=by unfold ag at h;rw[if_pos hh]at h;exact h
 have h0:d_ s t i=0:=by unfold d_;rw[if_neg (by simp[hh]),if_neg (by rw[ha];omega)]
 unfold aq;rw[if_pos h0];unfold ag bg.say;simp only[List.length_set];by_cases hj:has s.hs.length j=true
 ·rw[if_pos hj,if_pos hj];exact D_ hh (by have:=of_decide_eq_true hj;omega)
 ·rw[if_neg hj,if_neg hj];by_cases e:j=i
  ·subst e;exact absurd hh hj
  ·rw[if_neg e]
theorem OV:(aH s t i).hs.length=s.hs.length:=by
 unfold aH;split
 ·simp[bg.say]
 ·rfl
theorem Iv:(aq s t i).hs.length=s.hs.length:=by
 unfold aq;split
 ·simp[bg.say]
 ·rfl
theorem OW:(bq s t i).hs.length=s.hs.length:=by unfold bq;split <;> rfl
theorem Fp(o x:Int):(aP s t i o x).hs.length=s.hs.length:=by unfold aP;split;split <;> rfl;rfl
theorem Cg(k:Int):(ai s t k i).hs.length=s.hs.length:=by unfold ai;split <;> rfl
theorem nW:(aq s t i).ws.length=s.ws.length:=(uE s t i).2
theorem OX:(bq s t i).ws.length=s.ws.length:=(Bh s t i).2
theorem nX(o x:Int):(aP s t i o x).ws.length=s.ws.length:=(Bi s t i o x).2
theorem Ch(k:Int):(ai s t k i).ws.length=s.ws.length:=(nQ s t k i).2
theorem tI:(aH s t i).ws.length=s.ws.length:=(uD s t i).2
end
def hl(C:Cf)(r:Rn):Int:=match r.at_ with
 | .release | .again | .over | .kill | .less | .leave | .absent | .enter | .unlock | .visit | .inspect | .finish=>(r.st:Int)
 | .prepare | .publish | .disclaim=>(C.n:Int)
 | _=>-1
def bh(r:Rn):Int:=match r.at_ with
 | .less | .leave=>1
 | _=>0
def Hd(S:Sh)(r:Rn):Prop:=ag S.ms (r.st:Int)=r.t
def Wd(S:Sh)(r:Rn):Prop:=6<=r.x/\r.x<S.ms.ws.length
def So(C:Cf)(r:Rn):Prop:=gZ C.n r.k=r.st
def He(S:Sh)(r:Rn):Prop:=∃f,find r.k S.fs=some f/\f.x=r.x
def Go(S:Sh)(r:Rn):Prop:=find r.k S.fs=none
def Ks(C:Cf)(S:Sh)(r:Rn):Prop:=r.ks.Nodup/\∀k∈r.ks,k.Ok/\gZ C.n k=r.st/\find k S.fs≠none
def Sw(C:Cf)(r:Rn):Prop:=jv r.q=true/\r.st<C.n
def Fq(C:Cf)(S:Sh)(r:Rn):Prop:=match r.at_ with
 | .find | .look=>r.mu=(r.st:Int)/\r.q=1/\So C r
 | .release=>r.mu=-1/\r.q=1/\So C r/\Hd S r/\Wd S r
 | .load | .judge=>r.mu=-1/\r.q=1/\So C r/\Wd S r
 | .advance | .sure=>r.mu=-1/\r.q=1/\So C r/\Wd S r/\r.mr<S.pts.length
 | .again | .over=>r.mu=-1/\r.q=1/\So C r/\Hd S r/\Wd S r/\He S r
 | .kill=>r.mu=-1/\So C r/\Hd S r/\Wd S r/\He S r/\(r.q=1\/Sw C r/\Ks C S r/\r.k∉r.ks)
 | .less | .leave=>r.mu=-1/\Hd S r/\(r.q=1/\So C r/\Go S r\/Sw C r/\Ks C S r)
 | .absent=>r.mu=-1/\r.q=1/\So C r/\Hd S r/\Go S r
 | .enter=>r.mu=-1/\r.q=1/\So C r/\Hd S r/\Go S r/\jt C.N r.wg=true
 | .unlock=>r.mu=-1/\Hd S r/\1<=r.v/\r.v<=5
 | .count | .add=>r.mu=-1/\1<=r.v/\r.v<=5
 | .claim=>r.mu=(C.n:Int)
 | .prepare | .disclaim=>r.mu=-1/\ag S.ms (C.n:Int)=r.t
 | .publish=>r.mu=-1/\ag S.ms (C.n:Int)=r.t/\vG r.wg≠4095
 | .stat=>r.mu=-1/\1<=r.z/\r.z<=5
 | .take=>r.mu=(r.st:Int)/\Sw C r
 | .visit=>r.mu=-1/\So C r/\Hd S r/\Sw C r/\Ks C S r/\find r.k S.fs≠none/\r.k∉r.ks
 | .inspect=>r.mu=-1/\So C r/\Hd S r/\Wd S r/\He S r/\Sw C r/\Ks C S r/\r.k∉r.ks
 | .finish=>r.mu=-1/\Hd S r/\Sw C r
 | _=>r.mu=-1
structure CG(C:Cf)(r:Rn):Prop where
 wf:g_ r.wf
 wg:g_ r.wg
 wc:g_ r.wc
 k:r.k.Ok
 p:r.p.Ok
 st:r.st<=C.n
 z : -9223372036854775808<=r.z/\r.z<=9223372036854775807
 tt:0<=r.t/\r.t<=9223372036854775807
structure Iw(C:Cf):Prop where
 n1:1<=C.n
 cn:C.n<=4096
 N:1<=C.N/\C.N<=4095
 cT:∀i,-9223372036854775808<=C.T i/\C.T i<=9223372036854775807
structure Gi(C:Cf)(S:Sh):Prop where
 ok:bg.Ok S.ms
 vL:dN S.fs
 hs:S.ms.hs.length=C.n+1
 ws:6<=S.ms.ws.length
 CD:∀f∈S.fs,6<=f.x/\f.x<S.ms.ws.length
 le:kG (af S.ms 0)<=C.N
structure Ri(C:Cf)(S:Sh)(r:Rn):Prop where
 wD:CG C r
 inf:Fq C S r
section
variable {C:Cf}{S S':Sh}{r r':Rn}
theorem dc(h:bg.Ok S.ms)(i:Int):g_ (af S.ms i):=by
 unfold bg.af;split
 ·rename_i hb;obtain⟨j,rfl,hj⟩:=bg.c_ hb;exact h.Vf hj
 ·exact⟨by omega,by omega⟩
theorem Ri.fit(h:Ri C S r)(hc:Iw C):Fit C S r :=
 {wf:=h.wD.wf,wg:=h.wD.wg,wc:=h.wD.wc,k:=h.wD.k,p:=h.wD.p,st:=h.wD.st,cn:=hc.cn,cT:=hc.cT,z:=h.wD.z,tt:=h.wD.tt
  mr:=λe=>by
   have hi:=h.inf
   rcases e with e | e <;> (unfold Fq at hi;rw[e]at hi;exact hi.2.2.2.2)
  q:=λe=>by
   have hi:=h.inf
   rcases e with e | e | e <;> unfold Fq at hi <;> rw[e]at hi
   ·exact hi.2.2.2.2.2.imp id λh=>h.1.1
   ·exact hi.2.2.imp (λh=>h.1) λh=>h.1.1
   ·exact hi.2.2.imp (λh=>h.1) λh=>h.1.1 }
theorem Ri.held(h:Ri C S r)(h0:hl C r≠-1):ag S.ms (hl C r)=r.t:=by
 have hi:=h.inf;unfold Fq at hi;unfold hl at h0 ⊢
 cases e:r.at_ <;> rw[e]at hi h0 <;> first | exact absurd rfl h0 | exact hi.2.1 | exact hi.2.2.1 | exact hi.2.2.2.1 | exact hi.2
structure YD(C:Cf)(t:Int)(S S':Sh):Prop where
 ws:S.ms.ws.length<=S'.ms.ws.length
 pt:S.pts.length<=S'.pts.length
 fx:∀k,find k S'.fs=find k S.fs\/ag S.ms ((gZ C.n k:Nat):Int)=t
 ho:∀i,ag S'.ms i=ag S.ms i\/ag S.ms i=-1\/ag S.ms i=t
theorem Ri.ext{t:Int}(h:Ri C S r)(hE:YD C t S S')(ht:r.t≠t):Ri C S' r:=by
 have hn:r.t≠-1:=by have:=h.wD.tt;omega
 have hH:∀i,ag S.ms i=r.t->ag S'.ms i=r.t:=λi e=>by
  rcases hE.ho i with h | h | h <;> omega
 have hd:Hd S r->Hd S' r:=hH _;have wd:Wd S r->Wd S' r:=λw=>⟨w.1,by have:=hE.ws;have:=w.2;omega⟩
 have fk:Hd S r->∀k,gZ C.n k=r.st->find k S'.fs=find k S.fs:=λhh k e=>by
  rcases hE.fx k with h | h
  ·exact h
  ·rw[e]at h;unfold Hd at hh;omega
 have he:Hd S r->So C r->He S r->He S' r:=λhh so ⟨f,h1,h2⟩=>⟨f,by rw[fk hh _ so];exact h1,h2⟩
 have go:Hd S r->So C r->Go S r->Go S' r:=λhh so g=>by unfold Go;rw[fk hh _ so];exact g
 have ks:Hd S r->Ks C S r->Ks C S' r:=λhh k=>⟨k.1,λx hx=>⟨(k.2 x hx).1,(k.2 x hx).2.1,by rw[fk hh x (k.2 x hx).2.1];exact(k.2 x hx).2.2⟩⟩;have hp:=hE.pt;refine⟨h.wD,?_⟩;have hi:=h.inf;unfold Fq at hi ⊢
 cases e:r.at_ <;> rw[e]at hi <;> dsimp only at hi ⊢
 case find=>exact hi
 case look=>exact hi
 case release=>exact⟨hi.1,hi.2.1,hi.2.2.1,hd hi.2.2.2.1,wd hi.2.2.2.2⟩
 case load=>exact⟨hi.1,hi.2.1,hi.2.2.1,wd hi.2.2.2⟩
 case judge=>exact⟨hi.1,hi.2.1,hi.2.2.1,wd hi.2.2.2⟩
 case advance=>exact⟨hi.1,hi.2.1,hi.2.2.1,wd hi.2.2.2.1,by have:=hi.2.2.2.2;omega⟩
 case sure=>exact⟨hi.1,hi.2.1,hi.2.2.1,wd hi.2.2.2.1,by have:=hi.2.2.2.2;omega⟩
 case again=>exact⟨hi.1,hi.2.1,hi.2.2.1,hd hi.2.2.2.1,wd hi.2.2.2.2.1,he hi.2.2.2.1 hi.2.2.1 hi.2.2.2.2.2⟩
 case over=>exact⟨hi.1,hi.2.1,hi.2.2.1,hd hi.2.2.2.1,wd hi.2.2.2.2.1,he hi.2.2.2.1 hi.2.2.1 hi.2.2.2.2.2⟩
 case kill=>exact⟨hi.1,hi.2.1,hd hi.2.2.1,wd hi.2.2.2.1,he hi.2.2.1 hi.2.1 hi.2.2.2.2.1,hi.2.2.2.2.2.imp id λx=>⟨x.1,ks hi.2.2.1 x.2.1,x.2.2⟩⟩
 case less=>exact⟨hi.1,hd hi.2.1,hi.2.2.imp (λx=>⟨x.1,x.2.1,go hi.2.1 x.2.1 x.2.2⟩) λx=>⟨x.1,ks hi.2.1 x.2⟩⟩
 case leave=>exact⟨hi.1,hd hi.2.1,hi.2.2.imp (λx=>⟨x.1,x.2.1,go hi.2.1 x.2.1 x.2.2⟩) λx=>⟨x.1,ks hi.2.1 x.2⟩⟩
 case absent=>exact⟨hi.1,hi.2.1,hi.2.2.1,hd hi.2.2.2.1,go hi.2.2.2.1 hi.2.2.1 hi.2.2.2.2⟩
 case enter=>exact⟨hi.1,hi.2.1,hi.2.2.1,hd hi.2.2.2.1,go hi.2.2.2.1 hi.2.2.1 hi.2.2.2.2.1,hi.2.2.2.2.2⟩
 case unlock=>exact⟨hi.1,hd hi.2.1,hi.2.2⟩
 case prepare=>exact⟨hi.1,hH _ hi.2⟩
 case publish=>exact⟨hi.1,hH _ hi.2.1,hi.2.2⟩
 case disclaim=>exact⟨hi.1,hH _ hi.2⟩
 case visit=>exact⟨hi.1,hi.2.1,hd hi.2.2.1,hi.2.2.2.1,ks hi.2.2.1 hi.2.2.2.2.1,by rw[fk hi.2.2.1 _ hi.2.1];exact hi.2.2.2.2.2.1,hi.2.2.2.2.2.2⟩
 case inspect=>exact⟨hi.1,hi.2.1,hd hi.2.2.1,wd hi.2.2.2.1,he hi.2.2.1 hi.2.1 hi.2.2.2.2.1,hi.2.2.2.2.2.1,ks hi.2.2.1 hi.2.2.2.2.2.2.1,hi.2.2.2.2.2.2.2⟩
 case finish=>exact⟨hi.1,hd hi.2.1,hi.2.2⟩
 all_goals exact hi
end
end Pg
end Go.Proofs.YtbhnbcadgmagpaaGreatDoor
namespace Go.Proofs.YtbhnbcadgmagpaaGreatDoor
namespace Pg
open bg (Ms af bq ay aP ag L4 aH aq d_ ai bD has at_)
open aE (R)
open iw (K fst j3)
open ak (Ke)
open Tb (gZ eR upd)
open bJ (find dN)
def hx(C:Cf)(r:Rn):Int:=match r.at_ with
 | .find | .look | .take | .release | .again | .over | .kill | .less | .leave | .absent | .enter | .unlock | .visit | .inspect | .finish=>(r.st:Int)
 | .claim | .prepare | .publish | .disclaim=>(C.n:Int)
 | _=>-1
def Pre(C:Cf)(S:Sh)(r:Rn):Prop:=match r.at_ with
 | .find | .look=>r.mu=-1/\r.q=1/\So C r/\Hd S r
 | .take=>r.mu=-1/\Hd S r/\Sw C r
 | .claim=>r.mu=-1/\ag S.ms (C.n:Int)=r.t
 | _=>Fq C S r
structure dI(C:Cf)(S:Sh)(r:Rn)(S':Sh)(r':Rn):Prop where
 gi:Gi C S'
 ri:Ri C S' r'
 t:r'.t=r.t
 ws:S.ms.ws.length<=S'.ms.ws.length
 pt:S.pts.length<=S'.pts.length
 fx:∀k,find k S'.fs=find k S.fs\/ag S.ms ((gZ C.n k:Nat):Int)=r.t
 fr:∀i,ag S'.ms i=ag S.ms i\/ag S.ms i=r.t/\ag S'.ms i=-1
 hk:hx C r=-1\/hl C r'=hx C r\/ag S'.ms (hx C r)=-1
 cnt:kG (af S'.ms 0) - S'.fs.length - bh r'=kG (af S.ms 0) - S.fs.length - bh r
structure E0(S S':Sh):Prop where
 ok:bg.Ok S.ms->bg.Ok S'.ms
 hs:S'.ms.hs.length=S.ms.hs.length
 ws:S'.ms.ws.length=S.ms.ws.length
 fs:S'.fs=S.fs
 pt:S.pts.length<=S'.pts.length
 ho:∀i,ag S'.ms i=ag S.ms i
 g0:af S'.ms 0=af S.ms 0
section
variable {C:Cf}{S S' S2:Sh}{r r':Rn}
theorem E0.refl(S:Sh):E0 S S:=⟨id,rfl,rfl,rfl,Nat.le_refl _,λ_=>rfl,rfl⟩
theorem E0.trans(h:E0 S S')(k:E0 S' S2):E0 S S2:=⟨λo=>k.ok (h.ok o),k.hs.trans h.hs,k.ws.trans h.ws,k.fs.trans h.fs,Nat.le_trans h.pt k.pt,λi=>(k.ho i).trans (h.ho i),k.g0.trans h.g0⟩
theorem E0.ld(S:Sh)(r:Rn)(i:Int):E0 S (gX S r i):=⟨λo=>o.load _ _,OW,OX,rfl,Nat.le_refl _,λ_=>Iq,Io⟩
theorem E0.touch(S:Sh)(r:Rn)(k i:Int):E0 S { S with ms:=ai S.ms r.t k i }:=⟨λo=>o.touch _ _ _,Cg k,Ch k,rfl,Nat.le_refl _,λ_=>vB k,vA k⟩
theorem E0.to(S:Sh)(r:Rn)(k:Int):E0 S (n8 C S r k):=by
 unfold n8;split
 ·exact E0.touch S r k _
 ·exact E0.refl S
theorem E0.say(S:Sh)(r:Rn)(kd:Int)(k:Ke)(v n:Int):E0 S (say S r kd k v n):=⟨id,rfl,rfl,rfl,by simp[Pg.say],λ_=>rfl,rfl⟩
theorem E0.mark(S:Sh):E0 S (mC S):=⟨id,rfl,rfl,rfl,by simp[mC],λ_=>rfl,rfl⟩
theorem E0.fill(S:Sh)(r:Rn)(v:Int):E0 S (xB S r v):=⟨id,rfl,rfl,rfl,by simp[xB],λ_=>rfl,rfl⟩
theorem E0.sw(S:Sh)(r:Rn)(i o x:Int)(hx:g_ x)(h:i≠0\/ay S.ms i o=false):E0 S (fG S r i o x) :=
 ⟨λk=>k.swap _ _ _ _ hx,Fp o x,nX o x,rfl,Nat.le_refl _,λ_=>kW o x,h.elim (λe=>zI o x λk=>e k.symm) λe=>qC o x e⟩
theorem E0.gi(E:E0 S S')(G:Gi C S):Gi C S' :=
 ⟨E.ok G.ok,by rw[E.fs];exact G.vL,E.hs.trans G.hs,by rw[E.ws];exact G.ws,by rw[E.fs,E.ws];exact G.CD,by rw[E.g0];exact G.le⟩
theorem dI.of(G:Gi C S)(E:E0 S S')(hr:Ri C S' r')(ht:r'.t=r.t)(hh:hx C r=-1\/hl C r'=hx C r)(hp:bh r'=bh r):dI C S r S' r' :=
 ⟨E.gi G,hr,ht,by rw[E.ws];exact Nat.le_refl _,E.pt,λk=>.inl (by rw[E.fs]),λi=>.inl (E.ho i),hh.imp id .inl,by rw[E.g0,E.fs,hp]⟩
theorem Hd.of(h:Hd S r)(E:E0 S S')(hs:r'.st=r.st)(ht:r'.t=r.t):Hd S' r':=by unfold Hd;rw[E.ho,hs,ht];exact h
theorem Wd.of(h:Wd S r)(E:E0 S S')(hx:r'.x=r.x):Wd S' r':=by unfold Wd;rw[E.ws,hx];exact h
theorem He.of(h:He S r)(E:E0 S S')(hk:r'.k=r.k)(hx:r'.x=r.x):He S' r':=by unfold He;rw[E.fs,hk,hx];exact h
theorem Go.of(h:Go S r)(E:E0 S S')(hk:r'.k=r.k):Go S' r':=by unfold Go;rw[E.fs,hk];exact h
theorem Ks.of(h:Ks C S r)(E:E0 S S')(hk:r'.ks=r.ks)(hs:r'.st=r.st):Ks C S' r':=by unfold Ks;rw[E.fs,hk,hs];exact h
theorem Ea(hb:CG C r)(h:Hd S r)(so:So C r):hasB C S r=true:=by
 unfold hasB eR;rw[so];unfold Hd at h;rw[h];simp[hb.tt.1]
theorem rV(hb:CG C r)(h:Hd S r)(so:So C r):mB C S r=find r.k S.fs:=by unfold mB;rw[Ea hb h so,if_pos rfl]
theorem rW{f:bJ.Fl}(hb:CG C r)(h:Hd S r)(so:So C r)(hf:find r.k S.fs=some f):dw C S r = { r with x:=f.x,tu:=f.dn }:=by unfold dw;rw[rV hb h so,hf]
theorem xV(hb:CG C r)(h:Hd S r)(so:So C r)(hf:find r.k S.fs=none):dw C S r = { r with x:=0,tu:=false }:=by unfold dw;rw[rV hb h so,hf]
theorem Mg(G:Gi C S){f:bJ.Fl}(hf:find r.k S.fs=some f):6<=f.x/\f.x<S.ms.ws.length:=G.CD f (bJ.b6 hf).1
theorem xW(r:Rn):(iJ r).t=r.t/\bh (iJ r)=0:=by
 unfold iJ;split
 ·exact⟨rfl,rfl⟩
 ·split <;> exact⟨rfl,rfl⟩
variable (G:Gi C S)(hb:CG C r)
include G hb
theorem Rt(ha:r.at_ = .find)(h:r.mu=-1/\r.q=1/\So C r/\Hd S r):dI C S r (jS C S r).1 (jS C S r).2:=by
 have E:=E0.to (C:=C) S r 5;unfold jS
 cases hf:find r.k S.fs with
 | some f =>
  rw[rW hb h.2.2.2 h.2.2.1 hf,rV hb h.2.2.2 h.2.2.1,hf]
  exact dI.of G E ⟨⟨hb.wf,hb.wg,hb.wc,hb.k,hb.p,hb.st,hb.z,hb.tt⟩,h.1,h.2.1,h.2.2.1,h.2.2.2.of E rfl rfl,by
   have:=Mg G hf
   show 6<=f.x/\f.x<((n8 C S r 5).ms.ws.length:Int)
   rw[E.ws];exact this⟩ rfl (.inr (by unfold hx;rw[ha];rfl)) (by unfold bh;rw[ha];rfl)
 | none =>
  rw[xV hb h.2.2.2 h.2.2.1 hf,rV hb h.2.2.2 h.2.2.1,hf]
  exact dI.of G E ⟨⟨hb.wf,hb.wg,hb.wc,hb.k,hb.p,hb.st,hb.z,hb.tt⟩,h.1,h.2.1,h.2.2.1,h.2.2.2.of E rfl rfl,by
   show find r.k (n8 C S r 5).fs=none
   rw[E.fs];exact hf⟩ rfl (.inr (by unfold hx;rw[ha];rfl)) (by unfold bh;rw[ha];rfl)
theorem Rv(ha:r.at_ = .look)(h:r.mu=-1/\r.q=1/\So C r/\Hd S r):dI C S r (jT C S r).1 (jT C S r).2:=by
 have E:=E0.to (C:=C) S r 5;unfold jT
 cases hf:find r.k S.fs with
 | some f =>
  rw[rW hb h.2.2.2 h.2.2.1 hf,rV hb h.2.2.2 h.2.2.1,hf]
  exact dI.of G E ⟨⟨hb.wf,hb.wg,hb.wc,hb.k,hb.p,hb.st,hb.z,hb.tt⟩,h.1,h.2.1,h.2.2.1,h.2.2.2.of E rfl rfl,by
   have:=Mg G hf
   show 6<=f.x/\f.x<((n8 C S r 5).ms.ws.length:Int)
   rw[E.ws];exact this,f,by show find r.k (n8 C S r 5).fs=_;rw[E.fs];exact hf,rfl⟩ rfl (.inr (by unfold hx;rw[ha];rfl)) (by unfold bh;rw[ha];rfl)
 | none =>
  rw[xV hb h.2.2.2 h.2.2.1 hf,rV hb h.2.2.2 h.2.2.1,hf]
  exact dI.of G E ⟨⟨hb.wf,hb.wg,hb.wc,hb.k,hb.p,hb.st,hb.z,hb.tt⟩,h.1,h.2.1,h.2.2.1,h.2.2.2.of E rfl rfl,by
   show find r.k (n8 C S r 5).fs=none
   rw[E.fs];exact hf⟩ rfl (.inr (by unfold hx;rw[ha];rfl)) (by unfold bh;rw[ha];rfl)
theorem dI.free{m:Int}(hm:ag S.ms m=r.t)(hmx:hx C r=m)(hr:Ri C (iy S r m) r')(ht:r'.t=r.t)(hp:bh r'=bh r):dI C S r (iy S r m) r' :=
 have e:∀i,ag (iy S r m).ms i=if i=m then -1 else ag S.ms i:=λi=>Ce hm hb.tt.1
 ⟨⟨G.ok.unlock _ _,G.vL,Iv.trans G.hs,by show 6<=(aq S.ms r.t m).ws.length;rw[nW];exact G.ws,by
   show ∀f∈S.fs,6<=f.x/\f.x<((aq S.ms r.t m).ws.length:Int)
   rw[nW];exact G.CD,by show kG (af (aq S.ms r.t m) 0)<=_;rw[sQ];exact G.le⟩,
  hr,ht,by show _<=(aq S.ms r.t m).ws.length;rw[nW];exact Nat.le_refl _,Nat.le_refl _,λk=>.inl rfl,λi=>by
   rw[e i]
   by_cases h:i=m
   ·subst h;rw[if_pos rfl];exact .inr ⟨hm,rfl⟩
   ·rw[if_neg h];exact .inl rfl,.inr (.inr (by rw[hmx,e m,if_pos rfl])),by
   show kG (af (aq S.ms r.t m) 0) - _ - _=_
   rw[sQ,hp];rfl⟩
theorem Iy(ha:r.at_ = .release)(h:r.mu=-1/\r.q=1/\So C r/\Hd S r/\Wd S r):dI C S r (kH S r).1 (kH S r).2 :=
 dI.free G hb h.2.2.2.1 (by unfold hx;rw[ha]) ⟨⟨hb.wf,hb.wg,hb.wc,hb.k,hb.p,hb.st,hb.z,hb.tt⟩,h.1,h.2.1,h.2.2.1,by
  show 6<=r.x/\r.x<((aq S.ms r.t r.st).ws.length:Int)
  rw[nW];exact h.2.2.2.2⟩ rfl (by unfold bh;rw[ha];rfl)
theorem Mh(ha:r.at_ = .unlock)(h:r.mu=-1/\Hd S r/\1<=r.v/\r.v<=5):dI C S r (nO S r).1 (nO S r).2 :=
 dI.free G hb h.2.1 (by unfold hx;rw[ha]) ⟨⟨hb.wf,hb.wg,hb.wc,hb.k,hb.p,hb.st,hb.z,hb.tt⟩,h.1,h.2.2.1,h.2.2.2⟩ rfl (by unfold bh;rw[ha];rfl)
theorem Rw(ha:r.at_ = .load)(h:r.mu=-1/\r.q=1/\So C r/\Wd S r):dI C S r (jU S r).1 (jU S r).2:=by
 have E:=E0.ld S r r.x;unfold jU;refine dI.of G E ?_ (by dsimp only;split <;> rfl) (.inl (by unfold hx;rw[ha])) (by dsimp only;rw[show bh r=0 by unfold bh;rw[ha]];split <;> rfl);dsimp only;split
 ·exact⟨⟨dc G.ok _,hb.wg,hb.wc,hb.k,hb.p,hb.st,hb.z,hb.tt⟩,rfl,h.2.1,h.2.2.1⟩
 ·exact⟨⟨dc G.ok _,hb.wg,hb.wc,hb.k,hb.p,hb.st,hb.z,hb.tt⟩,h.1,h.2.1,h.2.2.1,h.2.2.2.of E rfl⟩
theorem OY(ha:r.at_ = .judge)(h:r.mu=-1/\r.q=1/\So C r/\Wd S r):dI C S r (gG S r).1 (gG S r).2:=by
 have E:=(E0.ld S r 0).trans (E0.mark _)
 have hl:(fO S (dK S r)).mr<(mC (gX S r 0)).pts.length:=by simp[fO,mC,gX]
 unfold gG;refine dI.of G E ?_ (xW _).1 (.inl (by unfold hx;rw[ha])) ((xW _).2.trans (by unfold bh;rw[ha]));dsimp only;unfold iJ;split
 ·exact⟨⟨hb.wf,dc G.ok _,hb.wc,hb.k,hb.p,hb.st,hb.z,hb.tt⟩,rfl,h.2.1,h.2.2.1⟩
 split
 ·exact⟨⟨hb.wf,dc G.ok _,hb.wc,hb.k,hb.p,hb.st,hb.z,hb.tt⟩,h.1,h.2.1,h.2.2.1,h.2.2.2.of E rfl,hl⟩
 ·exact⟨⟨hb.wf,dc G.ok _,hb.wc,hb.k,hb.p,hb.st,hb.z,hb.tt⟩,h.1,h.2.1,h.2.2.1,h.2.2.2.of E rfl,hl⟩
theorem Ci(hh:hx C r=-1)(hp:bh r=0)(h:r.mu=-1/\r.q=1/\So C r/\Wd S r)(s u v:Int)(hv:1<=v/\v<=5):dI C S r (eB S r s u v).1 (eB S r s u v).2:=by
 have E:=E0.sw S r r.x r.wf (kF r.wf s u) (yI hb.wf s u) (.inl (by have:=h.2.2.2.1;omega));unfold eB;split
 ·exact dI.of G (E.trans (E0.fill _ _ _)) ⟨⟨hb.wf,hb.wg,hb.wc,hb.k,hb.p,hb.st,hb.z,hb.tt⟩,h.1,hv⟩ rfl (.inl hh) (by rw[hp];rfl)
 ·exact dI.of G E ⟨⟨hb.wf,hb.wg,hb.wc,hb.k,hb.p,hb.st,hb.z,hb.tt⟩,h.1,h.2.1,h.2.2.1,h.2.2.2.of E rfl⟩ rfl (.inl hh) (by rw[hp];rfl)
theorem Iz(ha:r.at_ = .advance)(h:r.mu=-1/\r.q=1/\So C r/\Wd S r/\r.mr<S.pts.length):dI C S r (kI C S r).1 (kI C S r).2 :=
 Ci G hb (by unfold hx;rw[ha]) (by unfold bh;rw[ha]) ⟨h.1,h.2.1,h.2.2.1,h.2.2.2.1⟩ _ _ 1 zo
theorem Rx(ha:r.at_ = .sure)(h:r.mu=-1/\r.q=1/\So C r/\Wd S r/\r.mr<S.pts.length):dI C S r (xC S r).1 (xC S r).2 :=
 Ci G hb (by unfold hx;rw[ha]) (by unfold bh;rw[ha]) ⟨h.1,h.2.1,h.2.2.1,h.2.2.2.1⟩ _ _ 4 zo
theorem OZ(ha:r.at_ = .again)(h:r.mu=-1/\r.q=1/\So C r/\Hd S r/\Wd S r/\He S r):dI C S r (rA S r).1 (rA S r).2 :=
 have E:=E0.ld S r r.x
 dI.of G E ⟨⟨dc G.ok _,hb.wg,hb.wc,hb.k,hb.p,hb.st,hb.z,hb.tt⟩,h.1,h.2.1,h.2.2.1,h.2.2.2.1.of E rfl rfl,h.2.2.2.2.1.of E rfl,h.2.2.2.2.2.of E rfl rfl⟩ rfl (.inr (by unfold hx;rw[ha];rfl)) (by unfold bh;rw[ha];rfl)
theorem Ry(ha:r.at_ = .over)(h:r.mu=-1/\r.q=1/\So C r/\Hd S r/\Wd S r/\He S r):dI C S r (jV S r).1 (jV S r).2:=by
 have E:=E0.ld S r 0;unfold jV;split
 ·exact dI.of G E ⟨⟨hb.wf,dc G.ok _,hb.wc,hb.k,hb.p,hb.st,hb.z,hb.tt⟩,h.1,h.2.2.1,h.2.2.2.1.of E rfl rfl,h.2.2.2.2.1.of E rfl,h.2.2.2.2.2.of E rfl rfl,.inl h.2.1⟩ rfl (.inr (by unfold hx;rw[ha];rfl)) (by unfold bh;rw[ha];rfl)
 ·exact dI.of G E ⟨⟨hb.wf,dc G.ok _,hb.wc,hb.k,hb.p,hb.st,hb.z,hb.tt⟩,h.1,h.2.1,h.2.2.1,h.2.2.2.1.of E rfl rfl,h.2.2.2.2.1.of E rfl⟩ rfl (.inr (by unfold hx;rw[ha];rfl)) (by unfold bh;rw[ha];rfl)
theorem Rz(ha:r.at_ = .kill)(h:r.mu=-1/\So C r/\Hd S r/\Wd S r/\He S r/\(r.q=1\/Sw C r/\Ks C S r/\r.k∉r.ks)):dI C S r (jw C S r).1 (jw C S r).2:=by
 have E:=E0.sw S r r.x r.wf gl Ko (.inl (by have:=h.2.2.2.1.1;omega));obtain⟨h1,h2,h3,h4,⟨f,hf,hfx⟩,h5⟩:=h;unfold jw;split
 ·have G1:=E.gi G;have hh1:=h3.of E (r':=r) rfl rfl;have E2:=E0.touch (fG S r r.x r.wf gl) r 6 ((gZ C.n r.k:Nat):Int)
  have W7:uA C (fG S r r.x r.wf gl) r = { { (fG S r r.x r.wf gl)with ms:=ai (fG S r r.x r.wf gl).ms r.t 6 ((gZ C.n r.k:Nat):Int) }with fs:=bJ.drop r.k S.fs }:=by
   unfold uA;rw[Ea hb hh1 h2,if_pos rfl];rfl
  rw[W7];have G2:=E2.gi G1;have E3:=E.trans E2;have hlen:=G.vL.tW hf;refine⟨⟨G2.ok,G.vL.drop r.k,G2.hs,G2.ws,λg hg=>G2.CD g ((bJ.fJ.1 hg).1),G2.le⟩,⟨⟨hb.wf,hb.wg,hb.wc,hb.k,hb.p,hb.st,hb.z,hb.tt⟩,h1,?_,?_⟩,rfl,?_,E3.pt,λk=>?_,λi=>.inl (E3.ho i),.inr (.inl (by unfold hx;rw[ha];rfl)),?_⟩
  ·exact(E3.ho _).trans h3
  ·rcases h5 with h5 | ⟨s1,s2,s3⟩
   ·exact .inl ⟨h5,h2,bJ.xa r.k S.fs⟩
   ·refine .inr ⟨s1,s2.1,λk hk=>⟨(s2.2 k hk).1,(s2.2 k hk).2.1,?_⟩⟩;have hne:k≠r.k:=λe=>s3 (e▸hk);show find k (bJ.drop r.k S.fs)≠none;rw[G.vL.iH hne];exact(s2.2 k hk).2.2
  ·show S.ms.ws.length<=_;exact Nat.le_of_eq E3.ws.symm
  ·by_cases e:k=r.k
   ·subst e;exact .inr (by rw[h2];exact h3)
   ·exact .inl (G.vL.iH e)
  ·have e0:=E3.g0;rw[show bh r=0 by unfold bh;rw[ha]];show kG (af (ai (fG S r r.x r.wf gl).ms r.t 6 ((gZ C.n r.k:Nat):Int)) 0) - ((bJ.drop r.k S.fs).length:Int) - 1=_;rw[show af (ai (fG S r r.x r.wf gl).ms r.t 6 ((gZ C.n r.k:Nat):Int)) 0=af S.ms 0 from e0];omega
 ·cases hq:jv r.q with
  | true =>
   rw[if_pos rfl]
   rcases h5 with h5 | ⟨s1,s2,s3⟩
   ·rw[h5]at hq;cases hq
   ·exact dI.of G E ⟨⟨hb.wf,hb.wg,hb.wc,hb.k,hb.p,hb.st,hb.z,hb.tt⟩,h1,h2,h3.of E rfl rfl,s1,s2.of E rfl rfl,by
     show find r.k (fG S r r.x r.wf gl).fs≠none
     rw[E.fs,hf];simp,s3⟩ rfl (.inr (by unfold hx;rw[ha];rfl)) (by unfold bh;rw[ha];rfl)
  | false =>
   rw[if_neg zs]
   rcases h5 with h5 | ⟨s1,s2,s3⟩
   ·exact dI.of G E ⟨⟨hb.wf,hb.wg,hb.wc,hb.k,hb.p,hb.st,hb.z,hb.tt⟩,h1,h5,h2,h3.of E rfl rfl,h4.of E rfl,f,by show find r.k (fG S r r.x r.wf gl).fs=_;rw[E.fs];exact hf,hfx⟩ rfl (.inr (by unfold hx;rw[ha];rfl)) (by unfold bh;rw[ha];rfl)
   ·rw[s1.1]at hq;cases hq
theorem RD(ha:r.at_ = .less)(h:r.mu=-1/\Hd S r/\(r.q=1/\So C r/\Go S r\/Sw C r/\Ks C S r)):dI C S r (xD S r).1 (xD S r).2 :=
 have E:=E0.ld S r 0
 dI.of G E ⟨⟨hb.wf,dc G.ok _,hb.wc,hb.k,hb.p,hb.st,hb.z,hb.tt⟩,h.1,h.2.1.of E rfl rfl,h.2.2.imp (λx=>⟨x.1,x.2.1,x.2.2.of E rfl⟩) λx=>⟨x.1,x.2.of E rfl rfl⟩⟩ rfl (.inr (by unfold hx;rw[ha];rfl)) (by unfold bh;rw[ha];rfl)
omit G hb in
theorem tJ{o x:Int}(h:ay S.ms 0 o=true):af S.ms 0=o/\af (fG S r 0 o x).ms 0=x:=⟨Md h,by show af (aP S.ms r.t 0 o x) 0=x;rw[oA o x h,if_pos rfl]⟩
omit hb in
theorem Gi.gate{x:Int}(hx:g_ x)(hle:kG x<=C.N){o:Int}(h:ay S.ms 0 o=true):Gi C (fG S r 0 o x) :=
 ⟨G.ok.swap _ _ _ _ hx,G.vL,(Fp o x).trans G.hs,by show 6<=(aP S.ms r.t 0 o x).ws.length;rw[nX];exact G.ws,by
  show ∀f∈S.fs,6<=f.x/\f.x<((aP S.ms r.t 0 o x).ws.length:Int)
  rw[nX];exact G.CD,by rw[(tJ (r:=r) h).2];exact hle⟩
omit G hb in
theorem rX(YE:S'.fs=S.fs)(TW:∀i,ag S'.ms i=ag S.ms i)(hr':CG C r')(hks:r'.ks=r.ks)(hst:r'.st=r.st)(ht:r'.t=r.t)(hm:r'.mu=-1)(hh:Hd S r)(s1:Sw C r')(s2:Ks C S r):Ri C S' (bQ r')/\hl C (bQ r')=(r.st:Int)/\bh (bQ r')=0/\(bQ r').t=r.t:=by
 have YF:ag S'.ms (r'.st:Int)=r'.t:=by rw[TW,hst,ht];exact hh
 unfold bQ;have e2:=hks
 cases hc:r'.ks with
 | nil=>exact⟨⟨⟨hr'.wf,hr'.wg,hr'.wc,hr'.k,hr'.p,hr'.st,hr'.z,hr'.tt⟩,hm,YF,s1⟩,by unfold hl;dsimp only[goto];rw[hst],rfl,ht⟩
 | cons k ks =>
  rw[hc]at e2
  obtain⟨n1,n2⟩:=s2
  rw[← e2]at n1 n2
  have nk:=List.nodup_cons.1 n1
  have hk:=n2 k (List.mem_cons_self ..)
  exact⟨⟨⟨hr'.wf,hr'.wg,hr'.wc,hk.1,hr'.p,hr'.st,hr'.z,hr'.tt⟩,hm,by show gZ C.n k=r'.st;rw[hst];exact hk.2.1,YF,s1,
   ⟨nk.2,λx hx=>by have:=n2 x (List.mem_cons_of_mem _ hx);exact⟨this.1,by show _=r'.st;rw[hst];exact this.2.1,by rw[YE];exact this.2.2⟩⟩,by
    show find k S'.fs≠none
    rw[YE];exact hk.2.2,nk.1⟩,by unfold hl;dsimp only;rw[hst],rfl,ht⟩
end
end Pg
end Go.Proofs.YtbhnbcadgmagpaaGreatDoor
namespace Go.Proofs.YtbhnbcadgmagpaaGreatDoor
namespace Pg
open bg (Ms af bq ay aP ag L4 aH aq d_ ai bD has at_)
open aE (R)
open iw (K fst j3)
open ak (Ke)
open Tb (gZ eR upd)
open bJ (find dN)
section
variable {C:Cf}{S S' S2:Sh}{r r':Rn}
variable (G:Gi C S)(hb:CG C r)
include G hb
theorem O0(ha:r.at_ = .leave)(h:r.mu=-1/\Hd S r/\(r.q=1/\So C r/\Go S r\/Sw C r/\Ks C S r))(zJ:(S.fs.length:Int)+1<=kG (af S.ms 0)):dI C S r (fb S r).1 (fb S r).2:=by
 have hx0:hx C r=(r.st:Int):=by unfold hx;rw[ha]
 have mo:bh r=1:=by unfold bh;rw[ha]
 unfold fb
 cases hsw:ay S.ms 0 r.wg with
 | true =>
  rw[if_pos rfl]
  obtain⟨e0,e1⟩:=tJ (S:=S) (r:=r) (x:=cS r.wg) hsw
  have hk1:kG (cS r.wg)=kG r.wg - 1:=by
   unfold cS;rw[if_neg (by rw[e0]at zJ;omega)];exact(wG (xA hb.wg (by rw[e0]at zJ;omega))).2.2.1
  have G1:=Gi.gate (r:=r) G (yK hb.wg) (by rw[hk1];have:=G.le;rw[e0]at this;omega) hsw
  have E:=E0.say (fG S r 0 r.wg (cS r.wg)) r 4 r.k 0 (if r.q=4 then 1 else 0)
  have TW:∀i,ag (say (fG S r 0 r.wg (cS r.wg)) r 4 r.k 0 (if r.q=4 then 1 else 0)).ms i=ag S.ms i:=λi=>kW _ _
  have ecn:kG (af (say (fG S r 0 r.wg (cS r.wg)) r 4 r.k 0 (if r.q=4 then 1 else 0)).ms 0)=kG (af S.ms 0) - 1:=by
   show kG (af (fG S r 0 r.wg (cS r.wg)).ms 0)=_;rw[e1,hk1,e0]
  have key:Ri C (say (fG S r 0 r.wg (cS r.wg)) r 4 r.k 0 (if r.q=4 then 1 else 0)) (kJ r)/\hl C (kJ r)=(r.st:Int)/\bh (kJ r)=0/\(kJ r).t=r.t:=by
   rcases h.2.2 with⟨h5,h6,h7⟩ | ⟨s1,s2⟩
   ·rw[show kJ r=goto r .absent by unfold kJ;rw[show jv r.q=false by rw[h5];rfl];rfl];exact⟨⟨⟨hb.wf,hb.wg,hb.wc,hb.k,hb.p,hb.st,hb.z,hb.tt⟩,h.1,h5,h6,by show ag _ _=_;rw[TW];exact h.2.1,h7⟩,rfl,rfl,rfl⟩
   ·rw[show kJ r=bQ { r with n:=IntKind.i64.wrap (r.n+1) } by unfold kJ;rw[s1.1];rfl];exact rX (S:=S) (r:=r) rfl TW ⟨hb.wf,hb.wg,hb.wc,hb.k,hb.p,hb.st,hb.z,hb.tt⟩ rfl rfl rfl h.1 h.2.1 s1 s2
  refine⟨E.gi G1,key.1,key.2.2.2,by show _<=(aP S.ms r.t 0 r.wg _).ws.length;rw[nX];exact Nat.le_refl _,E.pt,λk=>.inl rfl,λi=>.inl (TW i),.inr (.inl (by rw[hx0];exact key.2.1)),?_⟩
  rw[ecn,key.2.2.1,mo]
  show _ - (S.fs.length:Int) - _=_
  omega
 | false =>
  rw[if_neg zs]
  have E:=E0.sw S r 0 r.wg (cS r.wg) (yK hb.wg) (.inr hsw)
  exact dI.of G E ⟨⟨hb.wf,hb.wg,hb.wc,hb.k,hb.p,hb.st,hb.z,hb.tt⟩,h.1,h.2.1.of E rfl rfl,h.2.2.imp (λx=>⟨x.1,x.2.1,x.2.2.of E rfl⟩) λx=>⟨x.1,x.2.of E rfl rfl⟩⟩ rfl (.inr hx0.symm) (by rw[mo];rfl)
omit G hb in
theorem IA{r:Rn}{l:List R}(h:cU C r l=1):jt C.N r.wg=true:=by
 unfold cU at h;split at h
 ·omega
 split at h
 ·omega
 split at h
 ·omega
 ·rename_i h3;simpa using h3
omit G hb in
theorem Mi(r:Rn)(l:List R):1<=cU C r l/\cU C r l<=5:=by
 unfold cU;split
 ·omega
 split
 ·omega
 split <;> omega
theorem Mj(ha:r.at_ = .absent)(h:r.mu=-1/\r.q=1/\So C r/\Hd S r/\Go S r):dI C S r (fq C S r).1 (fq C S r).2:=by
 have E:=(E0.ld S r 0).trans (E0.touch (gX S r 0) r 5 ((C.n:Int)+vG (dK S r).wg))
 have hx0:hx C r=(r.st:Int):=by unfold hx;rw[ha]
 have mo:bh r=0:=by unfold bh;rw[ha]
 unfold fq nN;split
 ·rename_i h1;exact dI.of G E ⟨⟨hb.wf,dc G.ok _,hb.wc,hb.k,hb.p,hb.st,hb.z,hb.tt⟩,h.1,h.2.1,h.2.2.1,h.2.2.2.1.of E rfl rfl,h.2.2.2.2.of E rfl,IA h1⟩ rfl (.inr hx0.symm) (by rw[mo];rfl)
 ·have E2:=E.trans (E0.say _ (dK S r) 2 (dK S r).k (cU C (dK S r) ((gX S r 0).rl (vG (dK S r).wg))) 0);exact dI.of G E2 ⟨⟨hb.wf,dc G.ok _,hb.wc,hb.k,hb.p,hb.st,hb.z,hb.tt⟩,h.1,h.2.2.2.1.of E2 rfl rfl,Mi _ _⟩ rfl (.inr hx0.symm) (by rw[mo];rfl)
theorem O1(ha:r.at_ = .enter)(h:r.mu=-1/\r.q=1/\So C r/\Hd S r/\Go S r/\jt C.N r.wg=true)(hroom:(S.ms.ws.length:Int)<1000000000000):dI C S r (h_ C S r).1 (h_ C S r).2:=by
 have hx0:hx C r=(r.st:Int):=by unfold hx;rw[ha]
 have mo:bh r=0:=by unfold bh;rw[ha]
 obtain⟨h1,h2,h3,h4,h5,h6⟩:=h
 have W8:kG (cj C.N r.wg)=kG r.wg+1:=by
  unfold cj;rw[if_pos h6];exact(wG (xy hb.wg h6)).2.2.1
 have hN : ¬C.N<=kG r.wg:=(of_decide_eq_true h6).1;unfold h_
 cases hsw:ay S.ms 0 r.wg with
 | false =>
  rw[if_neg zs]
  have E:=E0.sw S r 0 r.wg (cj C.N r.wg) (yJ hb.wg _) (.inr hsw)
  exact dI.of G E ⟨⟨hb.wf,hb.wg,hb.wc,hb.k,hb.p,hb.st,hb.z,hb.tt⟩,h1,h2,h3,h4.of E rfl rfl,h5.of E rfl⟩ rfl (.inr hx0.symm) (by rw[mo];rfl)
 | true =>
  rw[if_pos rfl]
  obtain⟨e0,e1⟩:=tJ (S:=S) (r:=r) (x:=cj C.N r.wg) hsw
  have G1:=Gi.gate (r:=r) G (yJ hb.wg C.N) (by rw[W8];omega) hsw
  obtain⟨nw,YG⟩:∃z,kF 0 r.tn (ju C r)=z:=⟨_,rfl⟩
  have hw:g_ nw:=YG▸yI ⟨by omega,by omega⟩ _ _
  rw[YG]
  obtain⟨S1,hS1⟩:∃z,fG S r 0 r.wg (cj C.N r.wg)=z:=⟨_,rfl⟩
  have f1:S1.fs=S.fs:=by rw[← hS1];rfl
  have w1:S1.ms.ws.length=S.ms.ws.length:=by rw[← hS1];exact nX _ _
  have p1:S1.pts=S.pts:=by rw[← hS1];rfl
  have o1:∀i,ag S1.ms i=ag S.ms i:=λi=>by rw[← hS1];exact kW _ _
  rw[hS1]at G1 e1 ⊢
  have hhb:hasB C (uC S1 nw) r=true:=Ea hb (by show ag S1.ms _=_;rw[o1];exact h4) h3
  have hput:ry C (uC S1 nw) r (S1.ms.ws.length:Int) = { { (uC S1 nw)with ms:=ai (uC S1 nw).ms r.t 6 ((gZ C.n r.k:Nat):Int) }with fs:=bJ.ins ⟨r.k,(S1.ms.ws.length:Int),r.dn⟩ S.fs }:=by
   unfold ry;rw[hhb,if_pos rfl];rw[show(uC S1 nw).fs=S.fs from f1,Tb.uf (show find (⟨r.k,(S1.ms.ws.length:Int),r.dn⟩:bJ.Fl).k S.fs=none from h5)]
  rw[hput]
  have hfl:(⟨r.k,(S1.ms.ws.length:Int),r.dn⟩:bJ.Fl).Ok:=⟨hb.k,by show -9223372036854775808<=(S1.ms.ws.length:Int);omega,by show(S1.ms.ws.length:Int)<=9223372036854775807;rw[w1];omega⟩
  have hw6:=G.ws
  have hst:(ai (bD S1.ms nw) r.t 6 ((gZ C.n r.k:Nat):Int)).ws.length=S.ms.ws.length+1:=by rw[Ch];simp[bD,w1]
  have hlk:af (ai (bD S1.ms nw) r.t 6 ((gZ C.n r.k:Nat):Int)) 0=cj C.N r.wg:=by rw[vA,Is nw (by rw[w1];omega)];exact e1
  have Na:∀i,ag (ai (bD S1.ms nw) r.t 6 ((gZ C.n r.k:Nat):Int)) i=ag S.ms i:=λi=>by rw[vB,Ir];exact o1 i
  refine⟨⟨(G1.ok.more hw (by rw[w1];omega)).touch _ _ _,G.vL.ins hfl h5,Cg _ |>.trans G1.hs,?_,?_,?_⟩,⟨⟨hb.wf,hb.wg,hb.wc,hb.k,hb.p,hb.st,hb.z,hb.tt⟩,h1,?_,by show(1:Int)<=1;omega,by show(1:Int)<=5;omega⟩,rfl,?_,?_,λk=>?_,λi=>.inl (Na i),.inr (.inl hx0.symm),?_⟩
  ·show 6<=(ai (bD S1.ms nw) r.t 6 ((gZ C.n r.k:Nat):Int)).ws.length;rw[hst];omega
  ·show ∀f∈bJ.ins ⟨r.k,(S1.ms.ws.length:Int),r.dn⟩ S.fs,6<=f.x/\f.x<((ai (bD S1.ms nw) r.t 6 ((gZ C.n r.k:Nat):Int)).ws.length:Int);rw[hst];intro f hf
   rcases bJ.jO.1 hf with rfl | hf
   ·show 6<=(S1.ms.ws.length:Int)/\(S1.ms.ws.length:Int)<_;rw[w1];omega
   ·have:=G.CD f hf;omega
  ·show kG (af (ai (bD S1.ms nw) r.t 6 ((gZ C.n r.k:Nat):Int)) 0)<=_;rw[hlk,W8];omega
  ·show ag (ai (bD S1.ms nw) r.t 6 ((gZ C.n r.k:Nat):Int)) _=_;rw[Na];exact h4
  ·show S.ms.ws.length<=(ai (bD S1.ms nw) r.t 6 ((gZ C.n r.k:Nat):Int)).ws.length;rw[hst];omega
  ·show S.pts.length<=(S1.pts++_).length;rw[p1];simp
  ·by_cases e:k=r.k
   ·subst e;exact .inr (by rw[h3];exact h4)
   ·refine .inl ?_;show find k (bJ.ins ⟨r.k,(S1.ms.ws.length:Int),r.dn⟩ S.fs)=_;have YH:=bJ.gC ⟨r.k,(S1.ms.ws.length:Int),r.dn⟩ S.fs;have hok:=G.vL.ins hfl h5
    cases hf:find k S.fs with
    | some f =>
     obtain⟨m1,m2⟩:=bJ.b6 hf
     have:=hok.nB (bJ.jO.2 (.inr m1))
     rw[m2]at this;exact this
    | none =>
     cases Ob:find k (bJ.ins ⟨r.k,(S1.ms.ws.length:Int),r.dn⟩ S.fs)with
     | none=>rfl
     | some f =>
      obtain⟨m1,m2⟩:=bJ.b6 Ob
      rcases bJ.jO.1 m1 with rfl | m1
      ·exact absurd m2.symm e
      ·exact absurd m2 (bJ.bP hf f m1)
  ·show kG (af (ai (bD S1.ms nw) r.t 6 ((gZ C.n r.k:Nat):Int)) 0) - ((bJ.ins ⟨r.k,(S1.ms.ws.length:Int),r.dn⟩ S.fs).length:Int) - 0=_;rw[hlk,W8,bJ.tA,mo,e0];omega
omit hb in
theorem xX(E:E0 S S')(hx0:hx C r=-1)(mo:bh r=0)(hr':CG C r')(hm:r'.mu=-1)(ht:r'.t=r.t):dI C S r (eE S' r').1 (eE S' r').2 :=
 dI.of G ((E.trans (E0.say S' r' 3 k0 r'.v 0)).trans (E0.say _ r' 8 k0 r'.v r'.n)) ⟨⟨hr'.wf,hr'.wg,hr'.wc,hr'.k,hr'.p,hr'.st,hr'.z,hr'.tt⟩,hm⟩ ht (.inl hx0) (by rw[mo];rfl)
omit hb in
theorem Qc(E:E0 S S')(hx0:hx C r=-1)(mo:bh r=0)(hr':CG C r')(hm:r'.mu=-1)(ht:r'.t=r.t):dI C S r (jJ S' r').1 (jJ S' r').2 :=
 dI.of G (E.trans (E0.say S' r' 8 k0 r'.v r'.n)) ⟨⟨hr'.wf,hr'.wg,hr'.wc,hr'.k,hr'.p,hr'.st,hr'.z,hr'.tt⟩,hm⟩ ht (.inl hx0) (by rw[mo];rfl)
omit hb in
theorem Cj(E:E0 S S')(hx0:hx C r=-1)(mo:bh r=0)(hr':CG C r')(hm:r'.mu=-1)(ht:r'.t=r.t)(hv:1<=r'.v/\r'.v<=5):dI C S r (dP S' r').1 (dP S' r').2:=by
 have E2:=E.trans (E0.ld S' r' r'.v);have pz:CG C (PE S' r'):=⟨hr'.wf,hr'.wg,dc (E.ok G.ok) _,hr'.k,hr'.p,hr'.st,hr'.z,hr'.tt⟩;unfold dP;split
 ·exact xX G E2 hx0 mo pz hm ht
 ·exact dI.of G E2 ⟨⟨pz.wf,pz.wg,pz.wc,pz.k,pz.p,pz.st,pz.z,pz.tt⟩,hm,hv⟩ ht (.inl hx0) (by rw[mo];rfl)
theorem O2(ha:r.at_ = .count)(h:r.mu=-1/\1<=r.v/\r.v<=5):dI C S r (dP S r).1 (dP S r).2 :=
 Cj G (E0.refl S) (by unfold hx;rw[ha]) (by unfold bh;rw[ha]) hb h.1 rfl h.2
theorem Ck(ha:r.at_ = .malformed)(h:r.mu=-1):dI C S r (ia S r).1 (ia S r).2 :=
 Cj G (E0.say S r 2 k0 2 0) (by unfold hx;rw[ha]) (by unfold bh;rw[ha]) (r':={ r with v:=2 }) ⟨hb.wf,hb.wg,hb.wc,hb.k,hb.p,hb.st,hb.z,hb.tt⟩ h rfl (by show(1:Int)<=2/\(2:Int)<=5;omega)
theorem TX(ha:r.at_ = .add)(h:r.mu=-1/\1<=r.v/\r.v<=5):dI C S r (rq S r).1 (rq S r).2:=by
 have E:=E0.sw S r r.v r.wc ((r.wc+1) % 18446744073709551616) ⟨by omega,by omega⟩ (.inl zo);unfold rq;split
 ·exact xX G E (by unfold hx;rw[ha]) (by unfold bh;rw[ha]) hb h.1 rfl
 ·exact dI.of G E ⟨⟨hb.wf,hb.wg,hb.wc,hb.k,hb.p,hb.st,hb.z,hb.tt⟩,h⟩ rfl (.inl (by unfold hx;rw[ha])) (by unfold bh;rw[ha] <;> rfl)
theorem Cl(ha:r.at_ = .readClock)(h:r.mu=-1):dI C S r (fT S r).1 (fT S r).2 :=
 dI.of G (E0.ld S r 0) ⟨⟨hb.wf,dc G.ok _,hb.wc,hb.k,hb.p,hb.st,hb.z,hb.tt⟩,h⟩ rfl (.inl (by unfold hx;rw[ha])) (by unfold bh;rw[ha] <;> rfl)
omit hb in
theorem dI.gate{x:Int}(W_:g_ x)(hk:kG x=kG r.wg)(hsw:ay S.ms 0 r.wg=true)(E:E0 (fG S r 0 r.wg x) S')(hr:Ri C S' r')(ht:r'.t=r.t)(hh:hx C r=-1\/hl C r'=hx C r)(hp:bh r'=bh r):dI C S r S' r':=by
 obtain⟨e0,e1⟩:=tJ (S:=S) (r:=r) (x:=x) hsw;have G1:=Gi.gate (r:=r) G W_ (by rw[hk];have:=G.le;rw[e0]at this;exact this) hsw;have A:=dI.of (r:=r) (r':=r') G1 E hr ht hh hp;refine⟨A.gi,hr,ht,by have:=A.ws;rwa [show(fG S r 0 r.wg x).ms.ws.length=S.ms.ws.length from nX _ _]at this,A.pt,λk=>.inl (by rw[E.fs];rfl),λi=>.inl (by rw[E.ho];exact kW _ _),hh.imp id .inl,?_⟩;rw[A.cnt,e1,hk,e0];rfl
theorem RE(ha:r.at_ = .tick)(h:r.mu=-1):dI C S r (jW S r).1 (jW S r).2:=by
 have hx0:hx C r=-1:=by unfold hx;rw[ha]
 have mo:bh r=0:=by unfold bh;rw[ha]
 unfold jW
 cases hsw:ay S.ms 0 r.wg with
 | true =>
  rw[if_pos rfl]
  have E:=(E0.say (fG S r 0 r.wg (js r.wg r.z)) r 5 k0 0 r.z).trans (E0.say _ { r with n:=Ga.later (cG r.wg) r.z } 8 k0 r.v (Ga.later (cG r.wg) r.z))
  exact dI.gate G (Dg hb.wg r.z) (wG (uy hb.wg r.z)).2.2.1 hsw E ⟨⟨hb.wf,hb.wg,hb.wc,hb.k,hb.p,hb.st,hb.z,hb.tt⟩,h⟩ rfl (.inl hx0) (by rw[mo];rfl)
 | false =>
  rw[if_neg zs]
  exact dI.of G (E0.sw S r 0 r.wg (js r.wg r.z) (Dg hb.wg r.z) (.inr hsw)) ⟨⟨hb.wf,hb.wg,hb.wc,hb.k,hb.p,hb.st,hb.z,hb.tt⟩,h⟩ rfl (.inl hx0) (by rw[mo];rfl)
theorem O3(ha:r.at_ = .claim)(h:r.mu=-1/\ag S.ms (C.n:Int)=r.t):dI C S r (rB S r).1 (rB S r).2 :=
 dI.of G (E0.refl S) ⟨⟨hb.wf,hb.wg,hb.wc,hb.k,hb.p,hb.st,hb.z,hb.tt⟩,h⟩ rfl (.inr (by unfold hx;rw[ha] <;> rfl)) (by unfold bh;rw[ha] <;> rfl)
theorem IB(ha:r.at_ = .prepare)(h:r.mu=-1/\ag S.ms (C.n:Int)=r.t):dI C S r (dQ C S r).1 (dQ C S r).2:=by
 have E:=E0.ld S r 0;unfold dQ kK;split
 ·exact dI.of G E ⟨⟨hb.wf,dc G.ok _,hb.wc,hb.k,hb.p,hb.st,hb.z,hb.tt⟩,h.1,(E.ho _).trans h.2⟩ rfl (.inr (by unfold hx;rw[ha] <;> rfl)) (by unfold bh;rw[ha] <;> rfl)
 ·rename_i h1
  have E2:E0 S (yM C (gX S r 0) (dK S r)):=by
   have:=E.trans (E0.touch (gX S r 0) r 6 ((C.n:Int)+(vG (dK S r).wg+1)));exact⟨this.ok,this.hs,this.ws,this.fs,this.pt,this.ho,this.g0⟩
  exact dI.of G E2 ⟨⟨hb.wf,dc G.ok _,hb.wc,hb.k,hb.p,hb.st,hb.z,hb.tt⟩,h.1,(E2.ho _).trans h.2,h1⟩ rfl (.inr (by unfold hx;rw[ha] <;> rfl)) (by unfold bh;rw[ha] <;> rfl)
theorem IC(ha:r.at_ = .publish)(h:r.mu=-1/\ag S.ms (C.n:Int)=r.t/\vG r.wg≠4095):dI C S r (dR S r).1 (dR S r).2:=by
 have hk:kG (cJ r.wg)=kG r.wg:=by unfold cJ;rw[if_neg h.2.2];exact(wG (uz hb.wg h.2.2)).2.2.1
 unfold dR
 cases hsw:ay S.ms 0 r.wg with
 | true =>
  rw[if_pos rfl]
  have E:E0 (fG S r 0 r.wg (cJ r.wg)) (say { fG S r 0 r.wg (cJ r.wg)with rl:=ic S.rl (dW r.wg - 1) [] } r 6 k0 0 (dW r.wg)):=⟨id,rfl,rfl,rfl,by simp[Pg.say],λ_=>rfl,rfl⟩
  exact dI.gate G (yL hb.wg) hk hsw E ⟨⟨hb.wf,hb.wg,hb.wc,hb.k,hb.p,hb.st,hb.z,hb.tt⟩,h.1,(E.ho _).trans ((kW _ _).trans h.2.1)⟩ rfl (.inr (by unfold hx;rw[ha] <;> rfl)) (by unfold bh;rw[ha] <;> rfl)
 | false =>
  rw[if_neg zs]
  have E:=E0.sw S r 0 r.wg (cJ r.wg) (yL hb.wg) (.inr hsw)
  exact dI.of G E ⟨⟨hb.wf,hb.wg,hb.wc,hb.k,hb.p,hb.st,hb.z,hb.tt⟩,h.1,(E.ho _).trans h.2.1⟩ rfl (.inr (by unfold hx;rw[ha] <;> rfl)) (by unfold bh;rw[ha] <;> rfl)
theorem dI.Ft{m:Int}(hm:ag S.ms m=r.t)(hmx:hx C r=m)(hp:bh r=0)(hr':CG C r')(TY:r'.mu=-1)(ht:r'.t=r.t):dI C S r (jJ (iy S r m) r').1 (jJ (iy S r m) r').2:=by
 have hr:Ri C (iy S r m) (jJ (iy S r m) r').2:=⟨⟨hr'.wf,hr'.wg,hr'.wc,hr'.k,hr'.p,hr'.st,hr'.z,hr'.tt⟩,TY⟩;have A:=dI.free G hb hm hmx hr ht (by rw[hp];rfl);have E:=E0.say (iy S r m) r' 8 k0 r'.v r'.n;refine⟨E.gi A.gi,⟨hr.wD,TY⟩,ht,A.ws,Nat.le_trans A.pt E.pt,A.fx,A.fr,A.hk,A.cnt⟩
theorem Eb(ha:r.at_ = .disclaim)(h:r.mu=-1/\ag S.ms (C.n:Int)=r.t):dI C S r (jd C S r).1 (jd C S r).2 :=
 dI.Ft G hb h.2 (by unfold hx;rw[ha]) (by unfold bh;rw[ha]) hb h.1 rfl
theorem RF(ha:r.at_ = .stat)(h:r.mu=-1/\1<=r.z/\r.z<=5):dI C S r (sJ S r).1 (sJ S r).2 :=
 Qc G ((E0.ld S r r.z).trans (E0.say _ r 7 k0 r.z _)) (by unfold hx;rw[ha]) (by unfold bh;rw[ha]) (r':={ r with n:=IntKind.i64.wrap (af S.ms r.z) }) ⟨hb.wf,hb.wg,hb.wc,hb.k,hb.p,hb.st,hb.z,hb.tt⟩ h.1 rfl
theorem RG(ha:r.at_ = .take)(h:r.mu=-1/\Hd S r/\Sw C r):dI C S r (sK C S r).1 (sK C S r).2:=by
 have hx0:hx C r=(r.st:Int):=by unfold hx;rw[ha]
 have mo:bh r=0:=by unfold bh;rw[ha]
 have TZ:eR S.ms r.t (r.st:Int)=true:=by unfold eR;rw[show ag S.ms (r.st:Int)=r.t from h.2.1];simp[hb.tt.1]
 have hk:iR C S r=(Tb.part C.n r.st S.fs).map (·.k):=by unfold iR;rw[if_pos ⟨h.2.2.2,TZ⟩]
 have E:E0 S (kL C S r):=by
  unfold kL;split
  ·exact E0.touch S r 5 (r.st:Int)
  ·exact E0.refl S
 have hkeys:Ks C S { r with ks:=iR C S r }:=by
  rw[hk];refine⟨(Tb.fL G.vL _ _).nodup,λk hk=>?_⟩;obtain⟨f,hf,rfl⟩:=List.mem_map.1 hk;obtain⟨m1,m2⟩:=Tb.jq.1 hf;exact⟨(G.vL.ok f m1).k,m2,by rw[G.vL.nB m1];simp⟩
 have key:=rX (S:=S) (S':=kL C S r) (r:={ r with ks:=iR C S r }) (r':={ r with ks:=iR C S r }) (C:=C) E.fs E.ho ⟨hb.wf,hb.wg,hb.wc,hb.k,hb.p,hb.st,hb.z,hb.tt⟩ rfl rfl rfl h.1 h.2.1 h.2.2 hkeys;exact dI.of G E key.1 key.2.2.2 (.inr (by rw[hx0];exact key.2.1)) (by rw[mo];exact key.2.2.1)
theorem O4(ha:r.at_ = .visit)(h:r.mu=-1/\So C r/\Hd S r/\Sw C r/\Ks C S r/\find r.k S.fs≠none/\r.k∉r.ks):dI C S r (gH C S r).1 (gH C S r).2:=by
 have hx0:hx C r=(r.st:Int):=by unfold hx;rw[ha]
 have mo:bh r=0:=by unfold bh;rw[ha]
 obtain⟨h1,h2,h3,h4,h5,h6,h7⟩:=h
 cases hf:find r.k S.fs with
 | none=>exact absurd hf h6
 | some f =>
 unfold gH;rw[rW hb h3 h2 hf];have E:=(E0.to (C:=C) S r 5).trans (E0.ld (n8 C S r 5) { r with x:=f.x,tu:=f.dn } f.x);have hw:=Mg G hf;have pz:CG C (CB (n8 C S r 5) { r with x:=f.x,tu:=f.dn }):=⟨dc ((E0.to (C:=C) S r 5).ok G.ok) _,hb.wg,hb.wc,hb.k,hb.p,hb.st,hb.z,hb.tt⟩
 have YI:find r.k (gX (n8 C S r 5) { r with x:=f.x,tu:=f.dn } f.x).fs=some f:=by rw[E.fs];exact hf
 have YJ:6<=f.x/\f.x<((gX (n8 C S r 5) { r with x:=f.x,tu:=f.dn } f.x).ms.ws.length:Int):=by rw[E.ws];exact hw
 split
 ·exact dI.of G E ⟨⟨pz.wf,pz.wg,pz.wc,pz.k,pz.p,pz.st,pz.z,pz.tt⟩,h1,h2,h3.of E rfl rfl,YJ,⟨f,YI,rfl⟩,.inr ⟨h4,h5.of E rfl rfl,h7⟩⟩ rfl (.inr hx0.symm) (by rw[mo];rfl)
 ·exact dI.of G E ⟨⟨pz.wf,pz.wg,pz.wc,pz.k,pz.p,pz.st,pz.z,pz.tt⟩,h1,h2,h3.of E rfl rfl,YJ,⟨f,YI,rfl⟩,h4,h5.of E rfl rfl,h7⟩ rfl (.inr hx0.symm) (by rw[mo];rfl)
theorem ID(ha:r.at_ = .inspect)(h:r.mu=-1/\So C r/\Hd S r/\Wd S r/\He S r/\Sw C r/\Ks C S r/\r.k∉r.ks):dI C S r (dx S r).1 (dx S r).2:=by
 have hx0:hx C r=(r.st:Int):=by unfold hx;rw[ha]
 have mo:bh r=0:=by unfold bh;rw[ha]
 obtain⟨h1,h2,h3,h4,h5,h6,h7,h8⟩:=h;have E:=E0.ld S r 0;unfold dx;split
 ·exact dI.of G E ⟨⟨hb.wf,dc G.ok _,hb.wc,hb.k,hb.p,hb.st,hb.z,hb.tt⟩,h1,h2,h3.of E rfl rfl,h4.of E rfl,h5.of E rfl rfl,.inr ⟨h6,h7.of E rfl rfl,h8⟩⟩ rfl (.inr hx0.symm) (by rw[mo];rfl)
 ·have key:=rX (S:=S) (S':=gX S r 0) (r:=r) (r':=dK S r) (C:=C) E.fs E.ho ⟨hb.wf,dc G.ok _,hb.wc,hb.k,hb.p,hb.st,hb.z,hb.tt⟩ rfl rfl rfl h1 h3 h6 h7;exact dI.of G E key.1 key.2.2.2 (.inr (by rw[hx0];exact key.2.1)) (by rw[mo];exact key.2.2.1)
theorem Mk(ha:r.at_ = .finish)(h:r.mu=-1/\Hd S r/\Sw C r):dI C S r (fu C S r).1 (fu C S r).2:=by
 have hx0:hx C r=(r.st:Int):=by unfold hx;rw[ha]
 have mo:bh r=0:=by unfold bh;rw[ha]
 have hst:=h.2.2.2;have pz:CG C { r with st:=r.st+1 }:=⟨hb.wf,hb.wg,hb.wc,hb.k,hb.p,hst,hb.z,hb.tt⟩;unfold fu;split
 ·exact dI.Ft G hb h.2.1 hx0 mo pz h.1 rfl
 ·rename_i hne;exact dI.free G hb h.2.1 hx0 ⟨⟨hb.wf,hb.wg,hb.wc,hb.k,hb.p,hst,hb.z,hb.tt⟩,rfl,h.2.2.1,by show r.st+1<C.n;omega⟩ rfl (by rw[mo];rfl)
theorem O5(ha:r.at_ = .endOp)(h:r.mu=-1):dI C S r (jJ S r).1 (jJ S r).2 :=
 Qc G (E0.refl S) (by unfold hx;rw[ha]) (by unfold bh;rw[ha]) hb h rfl
theorem Fu(h:Pre C S r)(zJ:(S.fs.length:Int)+bh r<=kG (af S.ms 0))(hroom:(S.ms.ws.length:Int)<1000000000000):dI C S r (aY C S r).1 (aY C S r).2:=by
 unfold Pre Fq at h;unfold aY
 cases ha:r.at_ <;> rw[ha]at h <;> dsimp only at h ⊢
 case find=>exact Rt G hb ha h
 case release=>exact Iy G hb ha h
 case load=>exact Rw G hb ha h
 case judge=>exact OY G hb ha h
 case advance=>exact Iz G hb ha h
 case sure=>exact Rx G hb ha h
 case look=>exact Rv G hb ha h
 case again=>exact OZ G hb ha h
 case over=>exact Ry G hb ha h
 case kill=>exact Rz G hb ha h
 case less=>exact RD G hb ha h
 case leave=>exact O0 G hb ha h (by unfold bh at zJ;rw[ha]at zJ;exact zJ)
 case absent=>exact Mj G hb ha h
 case enter=>exact O1 G hb ha h hroom
 case unlock=>exact Mh G hb ha h
 case malformed=>exact Ck G hb ha h
 case count=>exact O2 G hb ha h
 case add=>exact TX G hb ha h
 case readClock=>exact Cl G hb ha h
 case tick=>exact RE G hb ha h
 case claim=>exact O3 G hb ha h
 case prepare=>exact IB G hb ha h
 case publish=>exact IC G hb ha h
 case disclaim=>exact Eb G hb ha h
 case stat=>exact RF G hb ha h
 case take=>exact RG G hb ha h
 case visit=>exact O4 G hb ha h
 case inspect=>exact ID G hb ha h
 case finish=>exact Mk G hb ha h
 case endOp=>exact O5 G hb ha h
 case done=>exact dI.of G (E0.refl S) ⟨hb,by unfold Fq;rw[ha];exact h⟩ rfl (.inl (by unfold hx;rw[ha])) rfl
end
end Pg
end Go.Proofs.YtbhnbcadgmagpaaGreatDoor
namespace Go.Proofs.YtbhnbcadgmagpaaGreatDoor
namespace Pg
open bg (Ms af bq ay aP ag L4 aH aq d_ ai bD has at_)
open aE (R)
open iw (K fst j3)
open ak (Ke)
open Tb (gZ eR upd)
open bJ (find dN)
section
variable {n:Nat}{C:Cf}{S S':Sh}{r r':Rn}
theorem Rm.rl(h:Rm n S)(rl:Int->List R):Rm n { S with rl:=rl }:=⟨h.l,h.f,h.p,h.w⟩
theorem Rm.fill(h:Rm n S)(v:Int):Rm n (xB S r v):=⟨h.l,h.f,by have:=h.p;simp only[xB,List.length_set];exact this,h.w⟩
theorem Rm.end_(h:Rm (n+1) S):Rm n (jJ S r).1:=h.say 8 k0 r.v r.n
theorem Rm.counted(h:Rm (n+2) S):Rm n (eE S r).1:=(h.say 3 k0 r.v 0).end_
theorem Rm.count(h:Rm (n+3) S):Rm n (dP S r).1:=by
 unfold dP;split
 ·exact(h.ld r.v).counted
 ·exact(h.ld r.v).mono zo
theorem Rm.decide(h:Rm (n+1) S)(v:Int):Rm n (lE S r v).1:=h.say 2 r.k v 0
theorem Rm.change(h:Rm (n+1) S)(s u v:Int):Rm n (eB S r s u v).1:=by
 unfold eB;split
 ·exact(h.sw r.x r.wf _).fill v
 ·exact h.sw r.x r.wf _
theorem Rm.act(h:Rm (n+9) S):Rm n (aY C S r).1:=by
 unfold aY
 cases r.at_ <;> dsimp only
 case find=>exact(h.to 5).mono zo
 case release=>exact(h.free r.st).mono zo
 case load=>exact(h.ld r.x).mono zo
 case judge=>exact((h.ld 0).mark).mono zo
 case advance=>exact(h.change _ _ _).mono zo
 case sure=>exact(h.change _ _ _).mono zo
 case look=>exact(h.to 5).mono zo
 case again=>exact(h.ld r.x).mono zo
 case over=>exact(h.ld 0).mono zo
 case kill =>
  unfold jw;split
  ·exact((h.sw r.x r.wf gl).rem).mono zo
  ·exact(h.sw r.x r.wf gl).mono zo
 case less=>exact(h.ld 0).mono zo
 case leave =>
  unfold fb;split
  ·exact((h.sw 0 r.wg _).say 4 r.k 0 _).mono zo
  ·exact(h.sw 0 r.wg _).mono zo
 case absent =>
  unfold fq nN;split
  ·exact((h.ld 0).touch (r:=r) 5 _).mono zo
  ·exact(((h.ld 0).touch (r:=r) 5 _).decide (r:=dK S r) _).mono zo
 case enter =>
  unfold h_;split
  ·exact((((h.sw 0 r.wg _).VC _).put _).decide 1).mono zo
  ·exact(h.sw 0 r.wg _).mono zo
 case unlock=>exact(h.free r.st).mono zo
 case malformed=>exact((h.say 2 k0 2 0).count (r:={ r with v:=2 })).mono zo
 case count=>exact(h.mono (by omega:n+3<=n+9)).count
 case add =>
  unfold rq;split
  ·exact((h.sw r.v r.wc _).counted (r:=r)).mono zo
  ·exact(h.sw r.v r.wc _).mono zo
 case readClock=>exact(h.ld 0).mono zo
 case tick =>
  unfold jW;split
  ·exact(((h.sw 0 r.wg _).say 5 k0 0 r.z).end_ (r:={ r with n:=Ga.later (cG r.wg) r.z })).mono zo
  ·exact(h.sw 0 r.wg _).mono zo
 case claim=>exact h.mono zo
 case prepare =>
  unfold dQ kK;split
  ·exact(h.ld 0).mono zo
  ·exact(((h.ld 0).touch (r:=r) 6 _).rl _).mono zo
 case publish =>
  unfold dR;split
  ·exact(((h.sw 0 r.wg _).rl _).say 6 k0 0 _).mono zo
  ·exact(h.sw 0 r.wg _).mono zo
 case disclaim=>exact((h.free C.n).end_).mono zo
 case stat=>exact(((h.ld r.z).say 7 k0 r.z _).end_ (r:={ r with n:=IntKind.i64.wrap (af S.ms r.z) })).mono zo
 case take =>
  unfold sK kL;split
  ·exact(h.touch (r:=r) 5 _).mono zo
  ·exact h.mono zo
 case visit=>exact((h.to 5).ld (r:=dw C S r) _).mono zo
 case inspect=>exact(h.ld 0).mono zo
 case finish =>
  unfold fu;split
  ·exact((h.free r.st).end_ (r:={ r with st:=r.st+1 })).mono zo
  ·exact(h.free r.st).mono zo
 case endOp=>exact(h.end_).mono zo
 case done=>exact h.mono zo
theorem Rm.O6(h:Rm (n+1) S):Rm n (aM S r):=by
 unfold aM;split
 ·exact h.mono zo
 ·have:=uD S.ms r.t r.mu;exact⟨by have:=h.l;show(aH S.ms r.t r.mu).ls.length+n<=_;omega,by have:=h.f;show S.fs.length+n<=_;omega,by have:=h.p;show S.pts.length+n<=_;omega,by have:=h.w;show(aH S.ms r.t r.mu).ws.length+n<_;omega⟩
theorem Rm.called'(h:Rm (n+1) S):Rm n (bB S r):=by
 unfold bB;split
 ·exact h.mono zo
 ·exact h.say 1 k0 0 0
theorem Rm.step(h:Rm (n+12) S):Rm n (Lf C S r).1:=by
 unfold Lf;split
 ·exact((Rm.act (C:=C) (r:={ r with mu:=-1,ki:=true }) (((h.mono (by omega:n+11<=n+12)).O6 (r:=r)).called' (r:=r)))).mono zo
 ·exact h.mono zo
structure Stp(C:Cf)(S:Sh)(r:Rn)(S':Sh)(r':Rn):Prop where
 gi:Gi C S'
 ri:Ri C S' r'
 t:r'.t=r.t
 ext:YD C r.t S S'
 ho:∀i,ag S'.ms i≠-1->(hl C r'=i/\ag S'.ms i=r.t)\/(ag S'.ms i=ag S.ms i/\hl C r≠i)
 cnt:kG (af S'.ms 0) - S'.fs.length - bh r'=kG (af S.ms 0) - S.fs.length - bh r
theorem kX(s:Ms):ag s (-1)=-1:=by unfold ag;rw[if_neg];unfold has;simp
theorem Ec(h:r.mu=-1):aM S r=S:=by unfold aM;rw[if_pos h]
theorem vC(S:Sh)(r:Rn):E0 S (bB S r):=by
 unfold bB;split
 ·exact E0.refl S
 ·exact E0.say S r 1 k0 0 0
theorem Gi.locked(G:Gi C S)(h:L4 S.ms r.t r.mu=true)(ht:r.t<=9223372036854775807):Gi C { S with ms:=aH S.ms r.t r.mu } :=
 ⟨G.ok.lock _ _ ht,G.vL,OV.trans G.hs,by show 6<=(aH S.ms r.t r.mu).ws.length;rw[tI];exact G.ws,by
  show ∀f∈S.fs,6<=f.x/\f.x<((aH S.ms r.t r.mu).ws.length:Int)
  rw[tI];exact G.CD,by show kG (af (aH S.ms r.t r.mu) 0)<=_;rw[rU];exact G.le⟩
def xY(a:At):Bool:=a == .find||a == .look||a == .take||a == .claim
theorem Ri.Qd(h:Ri C S r)(hl:xY r.at_=false):r.mu=-1:=by
 have hi:=h.inf;unfold Fq at hi
 cases ha:r.at_ <;> rw[ha]at hi hl <;> dsimp only at hi <;> first | exact absurd hl zd | exact hi | exact hi.1
theorem Ri.RH(h:Ri C S r)(hlk:xY r.at_=true):r.mu=hx C r/\hl C r=-1/\bh r=0/\hx C r≠-1:=by
 have hi:=h.inf;unfold Fq at hi;unfold hx hl bh
 cases ha:r.at_ <;> rw[ha]at hi hlk <;> dsimp only at hi ⊢ <;> first | exact absurd hlk zd | exact⟨hi.1,rfl,rfl,by omega⟩ | exact⟨hi,rfl,rfl,by omega⟩
theorem T0(hlk:xY r.at_=false):hx C r=hl C r:=by
 unfold hx hl
 cases ha:r.at_ <;> rw[ha]at hlk <;> first | exact absurd hlk zd | rfl
theorem Ri.e0(h:Ri C S r)(E:E0 S S'):Ri C S' r:=by
 refine⟨h.wD,?_⟩;have hi:=h.inf;have hd:Hd S r->Hd S' r:=λx=>x.of E rfl rfl;have wd:Wd S r->Wd S' r:=λx=>x.of E rfl;have he:He S r->He S' r:=λx=>x.of E rfl rfl;have go:Go S r->Go S' r:=λx=>x.of E rfl;have ks:Ks C S r->Ks C S' r:=λx=>x.of E rfl rfl
 have hH:∀i,ag S.ms i=r.t->ag S'.ms i=r.t:=λi e=>by rw[E.ho];exact e
 have hp:=E.pt;unfold Fq at hi ⊢
 cases e:r.at_ <;> rw[e]at hi <;> dsimp only at hi ⊢
 case release=>exact⟨hi.1,hi.2.1,hi.2.2.1,hd hi.2.2.2.1,wd hi.2.2.2.2⟩
 case load=>exact⟨hi.1,hi.2.1,hi.2.2.1,wd hi.2.2.2⟩
 case judge=>exact⟨hi.1,hi.2.1,hi.2.2.1,wd hi.2.2.2⟩
 case advance=>exact⟨hi.1,hi.2.1,hi.2.2.1,wd hi.2.2.2.1,by have:=hi.2.2.2.2;omega⟩
 case sure=>exact⟨hi.1,hi.2.1,hi.2.2.1,wd hi.2.2.2.1,by have:=hi.2.2.2.2;omega⟩
 case again=>exact⟨hi.1,hi.2.1,hi.2.2.1,hd hi.2.2.2.1,wd hi.2.2.2.2.1,he hi.2.2.2.2.2⟩
 case over=>exact⟨hi.1,hi.2.1,hi.2.2.1,hd hi.2.2.2.1,wd hi.2.2.2.2.1,he hi.2.2.2.2.2⟩
 case kill=>exact⟨hi.1,hi.2.1,hd hi.2.2.1,wd hi.2.2.2.1,he hi.2.2.2.2.1,hi.2.2.2.2.2.imp id λx=>⟨x.1,ks x.2.1,x.2.2⟩⟩
 case less=>exact⟨hi.1,hd hi.2.1,hi.2.2.imp (λx=>⟨x.1,x.2.1,go x.2.2⟩) λx=>⟨x.1,ks x.2⟩⟩
 case leave=>exact⟨hi.1,hd hi.2.1,hi.2.2.imp (λx=>⟨x.1,x.2.1,go x.2.2⟩) λx=>⟨x.1,ks x.2⟩⟩
 case absent=>exact⟨hi.1,hi.2.1,hi.2.2.1,hd hi.2.2.2.1,go hi.2.2.2.2⟩
 case enter=>exact⟨hi.1,hi.2.1,hi.2.2.1,hd hi.2.2.2.1,go hi.2.2.2.2.1,hi.2.2.2.2.2⟩
 case unlock=>exact⟨hi.1,hd hi.2.1,hi.2.2⟩
 case prepare=>exact⟨hi.1,hH _ hi.2⟩
 case publish=>exact⟨hi.1,hH _ hi.2.1,hi.2.2⟩
 case disclaim=>exact⟨hi.1,hH _ hi.2⟩
 case visit=>exact⟨hi.1,hi.2.1,hd hi.2.2.1,hi.2.2.2.1,ks hi.2.2.2.2.1,by rw[E.fs];exact hi.2.2.2.2.2.1,hi.2.2.2.2.2.2⟩
 case inspect=>exact⟨hi.1,hi.2.1,hd hi.2.2.1,wd hi.2.2.2.1,he hi.2.2.2.2.1,hi.2.2.2.2.2.1,ks hi.2.2.2.2.2.2.1,hi.2.2.2.2.2.2.2⟩
 case finish=>exact⟨hi.1,hd hi.2.1,hi.2.2⟩
 all_goals exact hi
theorem Ml(G:Gi C S)(h:Ri C S r)(zJ:(S.fs.length:Int)+bh r<=kG (af S.ms 0))(hroom:(S.ms.ws.length:Int)<1000000000000):Stp C S r (Lf C S r).1 (Lf C S r).2:=by
 unfold Lf
 cases hcb:mD S r with
 | false =>
  rw[if_neg zs]
  exact⟨G,h,rfl,⟨Nat.le_refl _,Nat.le_refl _,λ_=>.inl rfl,λ_=>.inl rfl⟩,λi hi=>by
   by_cases e:hl C r=i
   ·exact .inl ⟨e,by rw[← e];exact h.held (λe2=>hi (by rw[← e,e2];exact kX _))⟩
   ·exact .inr ⟨rfl,e⟩,rfl⟩
 | true =>
  rw[if_pos rfl]
  have aK:CG C { r with mu:=-1,ki:=true }:=⟨h.wD.wf,h.wD.wg,h.wD.wc,h.wD.k,h.wD.p,h.wD.st,h.wD.z,h.wD.tt⟩
  cases hlk:xY r.at_ with
  | false =>
   have TY:=h.Qd hlk
   rw[Ec TY]
   have E:=vC S r
   have h1:=h.e0 E
   have hpre:Pre C (bB S r) { r with mu:=-1,ki:=true }:=by
    have hi:=h1.inf;unfold Fq at hi;unfold Pre Fq
    cases ha:r.at_ <;> rw[ha]at hi hlk <;> first | exact absurd hlk zd | (rw[TY]at hi;exact hi) | exact hi | exact rfl
   have A:=Fu (E.gi G) aK hpre (by rw[E.fs,E.g0];exact zJ) (by rw[E.ws];exact hroom)
   have RI:hx C { r with mu:=-1,ki:=true }=hl C r:=T0 hlk
   refine⟨A.gi,A.ri,A.t,⟨by have:=A.ws;rw[E.ws]at this;exact this,Nat.le_trans E.pt A.pt,λk=>?_,λi=>?_⟩,λi hi=>?_,?_⟩
   ·rcases A.fx k with e | e
    ·exact .inl (by rw[e,E.fs])
    ·exact .inr (by rw[E.ho]at e;exact e)
   ·rcases A.fr i with e | e
    ·exact .inl (by rw[e,E.ho])
    ·exact .inr (.inr (by rw[← E.ho];exact e.1))
   ·have e0:ag (aY C (bB S r) { r with mu:=-1,ki:=true }).1.ms i=ag S.ms i:=by
     rcases A.fr i with e | e
     ·rw[e,E.ho]
     ·exact absurd e.2 hi
    by_cases e:hl C r=i
    ·refine .inl ⟨?_,?_⟩
     ·rcases A.hk with k | k | k
      ·rw[RI,e]at k;rw[k]at hi;exact absurd (kX _) hi
      ·rw[k,RI,e]
      ·rw[RI,e]at k;exact absurd k hi
     ·rw[e0,← e];exact h.held (λe2=>hi (by rw[e0,← e,e2];exact kX _))
    ·exact .inr ⟨e0,e⟩
   ·have:=A.cnt;rw[E.g0,E.fs]at this;exact this
  | true =>
   obtain⟨m1,m2,m3,m4⟩:=h.RH hlk
   have hlb:L4 S.ms r.t r.mu=true:=by
    unfold mD at hcb;simp only[Bool.and_eq_true,Bool.or_eq_true,beq_iff_eq]at hcb
    rcases hcb.2 with e | e
    ·omega
    ·exact e
   have hfree:=Iu hlb
   have hlS:aM S r = { S with ms:=aH S.ms r.t r.mu }:=by unfold aM;rw[if_neg zo]
   rw[hlS]
   have hlo:∀i,ag (aH S.ms r.t r.mu) i=if i=r.mu then r.t else ag S.ms i:=λi=>It hlb
   have G1:=G.locked hlb h.wD.tt.2
   have E:=vC { S with ms:=aH S.ms r.t r.mu } r
   have Na:∀i,ag (bB { S with ms:=aH S.ms r.t r.mu } r).ms i=if i=r.mu then r.t else ag S.ms i:=λi=>(E.ho i).trans (hlo i)
   have hpre:Pre C (bB { S with ms:=aH S.ms r.t r.mu } r) { r with mu:=-1,ki:=true }:=by
    have hi:=h.inf;unfold Fq at hi;unfold hx at m1;unfold Pre
    cases ha:r.at_ <;> rw[ha]at hi hlk m1 <;> first | exact absurd hlk zd | skip
    ·exact⟨rfl,hi.2.1,hi.2.2,by show ag _ (r.st:Int)=r.t;rw[Na,if_pos m1.symm]⟩
    ·exact⟨rfl,hi.2.1,hi.2.2,by show ag _ (r.st:Int)=r.t;rw[Na,if_pos m1.symm]⟩
    ·exact⟨rfl,by show ag _ (C.n:Int)=r.t;rw[Na,if_pos m1.symm]⟩
    ·exact⟨rfl,by show ag _ (r.st:Int)=r.t;rw[Na,if_pos m1.symm],hi.2⟩
   have A:=Fu (E.gi G1) aK hpre (by rw[E.fs,E.g0];show _<=kG (af (aH S.ms r.t r.mu) 0);rw[rU];exact zJ) (by rw[E.ws];show((aH S.ms r.t r.mu).ws.length:Int)<_;rw[tI];exact hroom)
   have RI:hx C { r with mu:=-1,ki:=true }=r.mu:=m1.symm
   refine⟨A.gi,A.ri,A.t,⟨?_,Nat.le_trans E.pt A.pt,λk=>?_,λi=>?_⟩,λi hi=>?_,?_⟩
   ·have:=A.ws;rw[E.ws]at this;exact Nat.le_trans (Nat.le_of_eq tI.symm) this
   ·rcases A.fx k with e | e
    ·exact .inl (by rw[e,E.fs])
    ·by_cases ek:((gZ C.n k:Nat):Int)=r.mu
     ·-- what the act itself locked: no act that xY turns the table
      refine .inl ?_
      have hfs:(aY C (bB { S with ms:=aH S.ms r.t r.mu } r) { r with mu:=-1,ki:=true }).1.fs=S.fs:=by
       unfold aY
       cases ha:r.at_ <;> rw[ha]at hlk <;> first | exact absurd hlk zd | skip
       ·exact((E0.to (C:=C) _ _ 5).fs).trans E.fs
       ·exact((E0.to (C:=C) _ _ 5).fs).trans E.fs
       ·exact E.fs
       ·dsimp only[sK];unfold kL;split <;> exact E.fs
      rw[hfs]
     ·exact .inr (by rw[Na,if_neg ek]at e;exact e)
   ·have:=Na i;by_cases ei:i=r.mu
    ·exact .inr (.inl (by rw[ei];exact hfree))
    ·rw[if_neg ei]at this
     rcases A.fr i with e | e
     ·exact .inl (by rw[e,this])
     ·exact .inr (.inr (by rw[← this];exact e.1))
   ·have e0:ag (aY C (bB { S with ms:=aH S.ms r.t r.mu } r) { r with mu:=-1,ki:=true }).1.ms i=if i=r.mu then r.t else ag S.ms i:=by
     rcases A.fr i with e | e
     ·rw[e,Na]
     ·exact absurd e.2 hi
    by_cases ei:i=r.mu
    ·rw[if_pos ei]at e0;refine .inl ⟨?_,e0⟩
     rcases A.hk with k | k | k
     ·rw[RI]at k;omega
     ·rw[k,RI,ei]
     ·rw[RI]at k;subst ei;exact absurd k hi
    ·rw[if_neg ei]at e0;exact .inr ⟨e0,by rw[m2];intro e2;rw[e0,← e2]at hi;exact hi (kX _)⟩
   ·have:=A.cnt;rw[E.g0,E.fs]at this;rw[show af ({ S with ms:=aH S.ms r.t r.mu }:Sh).ms 0=af S.ms 0 from rU]at this;exact this
def wE(rs:List Rn):Int:=(rs.map bh).sum
theorem Fv(r:Rn):0<=bh r:=by unfold bh;split <;> omega
theorem Fx(rs:List Rn):0<=wE rs:=by
 induction rs with
 | nil=>exact Int.le_refl _
 | cons r rs ih=>have:=Fv r;unfold wE at ih ⊢;simp only[List.map_cons,List.sum_cons];omega
theorem O7{rs:List Rn}{k:Nat}{r:Rn}(h:rs[k]? = some r):bh r<=wE rs:=by
 induction rs generalizing k with
 | nil=>cases h
 | cons x rs ih =>
  have h1:=Fv x
  have h2:=Fx rs
  unfold wE at ih h2 ⊢
  simp only[List.map_cons,List.sum_cons]
  cases k with
  | zero=>obtain rfl:=Option.some.inj h;omega
  | succ k=>have:=ih (show rs[k]? = some r from h);omega
theorem Mn{rs:List Rn}{k:Nat}{r:Rn}(h:rs[k]? = some r)(r':Rn):wE (rs.set k r')=wE rs - bh r+bh r':=by
 induction rs generalizing k with
 | nil=>cases h
 | cons x rs ih =>
  unfold wE at ih ⊢
  cases k with
  | zero=>obtain rfl:=Option.some.inj h;simp only[List.set_cons_zero,List.map_cons,List.sum_cons];omega
  | succ k =>
   have:=ih (show rs[k]? = some r from h)
   simp only[List.set_cons_succ,List.map_cons,List.sum_cons];omega
structure WI(C:Cf)(S:Sh)(rs:List Rn):Prop where
 gi:Gi C S
 ri:∀(i:Nat) (r:Rn),rs[i]? = some r->Ri C S r
 tt:∀(i:Nat) (r:Rn),rs[i]? = some r->r.t=(i:Int)
 ho:∀i,ag S.ms i≠-1->∃(j:Nat) (r:Rn),rs[j]? = some r/\ag S.ms i=r.t/\hl C r=i
 cnt:kG (af S.ms 0)=S.fs.length+wE rs
theorem WI.step{rs:List Rn}(H:WI C S rs){k:Nat}(hk:rs[k]? = some r)(hroom:(S.ms.ws.length:Int)<1000000000000):WI C (Lf C S r).1 (rs.set k (Lf C S r).2):=by
 have hs:=O7 hk;have T:=Ml H.gi (H.ri k r hk) (by rw[H.cnt];omega) hroom;have PV:k<rs.length:=(List.getElem?_eq_some_iff.1 hk).1
 have qg:∀(j:Nat) (x:Rn),(rs.set k (Lf C S r).2)[j]? = some x->j=k/\x=(Lf C S r).2\/j≠k/\rs[j]? = some x:=λj x h=>by
  by_cases e:j=k
  ·subst e;rw[List.getElem?_set_self PV]at h;exact .inl ⟨rfl,(Option.some.inj h).symm⟩
  ·rw[List.getElem?_set_ne (λh=>e h.symm)]at h;exact .inr ⟨e,h⟩
 refine⟨T.gi,λj x h=>?_,λj x h=>?_,λi hi=>?_,?_⟩
 ·rcases qg j x h with⟨rfl,rfl⟩ | ⟨e,h⟩
  ·exact T.ri
  ·refine(H.ri j x h).ext T.ext ?_;rw[H.tt j x h,H.tt k r hk];omega
 ·rcases qg j x h with⟨rfl,rfl⟩ | ⟨e,h⟩
  ·exact T.t.trans (H.tt j r hk)
  ·exact H.tt j x h
 ·rcases T.ho i hi with⟨e1,e2⟩ | ⟨e1,e2⟩
  ·exact⟨k,_,List.getElem?_set_self PV,by rw[e2,T.t],e1⟩
  ·obtain⟨j,x,h1,h2,h3⟩:=H.ho i (by rw[← e1];exact hi)
   have hne:j≠k:=λe=>by
    subst e;rw[hk]at h1;obtain rfl:=Option.some.inj h1;exact e2 h3
   exact⟨j,x,by rw[List.getElem?_set_ne (λh=>hne h.symm)];exact h1,e1.trans h2,h3⟩
 ·rw[Mn hk];have:=T.cnt;have:=H.cnt;omega
theorem WI.holds{rs:List Rn}(H:WI C S rs):(S.fs.length:Int)<=kG (af S.ms 0)/\kG (af S.ms 0)<=C.N:=⟨by rw[H.cnt];have:=Fx rs;omega,H.gi.le⟩
theorem WI.waits{rs:List Rn}(H:WI C S rs){k:Nat}{r:Rn}(hk:rs[k]? = some r)(hd:r.at_ ≠ .done):∃(j:Nat) (x:Rn),rs[j]? = some x/\x.at_ ≠ .done/\dS S x=false:=by
 by_cases hm:ag S.ms r.mu=-1
 ·exact⟨k,r,hk,hd,by unfold dS;rw[hm];simp⟩
 ·obtain⟨j,x,h1,h2,h3⟩:=H.ho _ hm
  have hne:hl C x≠-1:=by rw[h3];intro e;rw[e]at hm;exact hm (kX _)
  have hxl:xY x.at_=false/\x.at_ ≠ .done:=by
   unfold hl at hne
   cases ha:x.at_ <;> rw[ha]at hne <;> first | exact absurd rfl hne | exact⟨rfl,by decide⟩
  exact⟨j,x,h1,hxl.2,by unfold dS;rw[(H.ri j x h1).Qd hxl.1,kX];simp⟩
theorem RJ(hc:Iw C)(Oz:cB.bN (C.n:Int)=true)(S:Sh)(t op kd n:Int)(bs l:List UInt8)(ht:0<=t/\t<=9223372036854775807)(hn : -9223372036854775808<=n/\n<=9223372036854775807):Ri C S (sZ C t op kd n bs l)/\(sZ C t op kd n bs l).t=t/\hl C (sZ C t op kd n bs l)=-1/\bh (sZ C t op kd n bs l)=0:=by
 have w0:g_ 0:=⟨by omega,by omega⟩;have O8:k0.Ok:=⟨by decide,by decide,by decide,by decide,by decide⟩;have O9:(⟨0,0,0,0,0,0,0⟩:K).Ok:=⟨by decide,by decide,by decide,by decide,by decide,by decide,by decide⟩;have z0:(-9223372036854775808:Int)<=0/\(0:Int)<=9223372036854775807:=zo;have hnp:=hc.n1;unfold sZ;split
 ·unfold xR;split
  ·exact⟨⟨⟨w0,w0,w0,tG (DT bs),DT bs,Nat.le_of_lt (Tb.yB zo _),z0,ht⟩,rfl,rfl,rfl⟩,rfl,rfl,rfl⟩
  ·exact⟨⟨⟨w0,w0,w0,O8,O9,Nat.zero_le _,z0,ht⟩,rfl⟩,rfl,rfl,rfl⟩
 split
 ·exact⟨⟨⟨w0,w0,w0,O8,O9,Nat.zero_le _,hn,ht⟩,rfl⟩,rfl,rfl,rfl⟩
 split
 ·unfold Hh;split
  ·exact⟨⟨⟨w0,w0,w0,O8,O9,Nat.zero_le _,z0,ht⟩,rfl⟩,rfl,rfl,rfl⟩
  ·exact⟨⟨⟨w0,w0,w0,O8,O9,Nat.zero_le _,z0,ht⟩,rfl⟩,rfl,rfl,rfl⟩
 split
 ·exact⟨⟨⟨w0,w0,w0,O8,O9,Nat.zero_le _,z0,ht⟩,rfl,rfl,hnp⟩,rfl,rfl,rfl⟩
 split
 ·exact⟨⟨⟨w0,w0,w0,O8,O9,Nat.zero_le _,z0,ht⟩,rfl,rfl,hnp⟩,rfl,rfl,rfl⟩
 split
 ·unfold xS;split
  ·rename_i h;exact⟨⟨⟨w0,w0,w0,O8,O9,Nat.zero_le _,hn,ht⟩,rfl,h⟩,rfl,rfl,rfl⟩
  ·exact⟨⟨⟨w0,w0,w0,O8,O9,Nat.zero_le _,z0,ht⟩,rfl⟩,rfl,rfl,rfl⟩
 ·exact⟨⟨⟨w0,w0,w0,O8,O9,Nat.zero_le _,z0,ht⟩,rfl⟩,rfl,rfl,rfl⟩
theorem WI.add{rs:List Rn}(H:WI C S rs)(hr:Ri C S r)(ht:r.t=(rs.length:Int))(hh:hl C r=-1)(hp:bh r=0):WI C S (rs++[r]):=by
 have T3:∀(j:Nat) (x:Rn),(rs++[r])[j]? = some x->rs[j]? = some x\/j=rs.length/\x=r:=λj x h=>by
  rcases Nat.lt_or_ge j rs.length with hl | hl
  ·rw[List.getElem?_append_left hl]at h;exact .inl h
  ·rw[List.getElem?_append_right hl]at h;have hj:j - rs.length<[r].length:=(List.getElem?_eq_some_iff.1 h).1
   have:j=rs.length:=by simp at hj;omega
   subst this;simp at h;exact .inr ⟨rfl,h.symm⟩
 refine⟨H.gi,λj x h=>(T3 j x h).elim (H.ri j x) λe=>e.2▸hr,λj x h=>(T3 j x h).elim (H.tt j x) λe=>by rw[e.2,e.1];exact ht,λi hi=>?_,?_⟩
 ·obtain⟨j,x,h1,h2,h3⟩:=H.ho i hi;exact⟨j,x,by rw[List.getElem?_append_left (List.getElem?_eq_some_iff.1 h1).1];exact h1,h2,h3⟩
 ·rw[H.cnt];unfold wE;simp[hp]
end
end Pg
end Go.Proofs.YtbhnbcadgmagpaaGreatDoor
namespace Go.Proofs.YtbhnbcadgmagpaaGreatDoor
namespace Pg
open bg (Ms af bq ay aP ag L4 aH aq d_ ai bD has at_ l7)
open aE (R)
open iw (K fst j3)
open ak (Ke)
section
variable {C:Cf}{S:Sh}{r:Rn}
def En(r:Rn):Prop:=r.en=true↔r.at_ = .done
theorem bn{a:At}(h:r.en=false)(ha:a ≠ .done):En (goto r a):=⟨(λe=>by rw[show(goto r a).en=r.en from rfl,h]at e;cases e),λe=>absurd e ha⟩
theorem zM{a:At}{m:Int}(h:r.en=false)(ha:a ≠ .done):En (j4 r m a):=⟨(λe=>by rw[show(j4 r m a).en=r.en from rfl,h]at e;cases e),λe=>absurd e ha⟩
theorem jF(h:r.en=false)(ha:r.at_ ≠ .done):En r:=⟨(λe=>by rw[h]at e;cases e),λe=>absurd e ha⟩
theorem r_:En (jJ S r).2:=⟨λ_=>rfl,λ_=>rfl⟩
theorem vH:En (eE S r).2:=r_
theorem Cx(h:r.en=false):En (dP S r).2:=by
 unfold dP;split
 ·exact vH
 ·exact bn (r:=PE S r) h zd
theorem yd(h:r.en=false)(s u v:Int):En (eB S r s u v).2:=by
 unfold eB;split
 ·exact jF h (λe=>by cases e)
 ·exact bn h zd
theorem pq(h:r.en=false):En (bQ r):=by
 unfold bQ;split
 ·exact bn h zd
 ·exact jF h (λe=>by cases e)
theorem nY:(dw C S r).en=r.en:=by unfold dw;split <;> rfl
theorem R7(h:r.en=false)(hd:r.at_ ≠ .done):En (aY C S r).2:=by
 unfold aY
 cases ha:r.at_ <;> dsimp only
 case find =>
  unfold jS;dsimp only;split
  ·exact bn (nY.trans h) zd
  ·exact bn (nY.trans h) zd
 case look =>
  unfold jT;dsimp only;split
  ·exact bn (nY.trans h) zd
  ·exact bn (nY.trans h) zd
 case release=>exact bn h zd
 case load =>
  unfold jU;dsimp only;split
  ·exact zM (r:=CB S r) h zd
  ·exact bn (r:=CB S r) h zd
 case judge =>
  unfold gG iJ;dsimp only;split
  ·exact zM h zd
  split
  ·exact jF h (λe=>by cases e)
  ·exact bn h zd
 case advance=>exact yd h _ _ _
 case sure=>exact yd h _ _ _
 case again=>exact bn (r:=CB S r) h zd
 case over =>
  unfold jV;dsimp only;split
  ·exact bn (r:=dK S r) h zd
  ·exact bn (r:=dK S r) h zd
 case kill =>
  unfold jw;split
  ·exact bn h zd
  ·dsimp only;split
   ·exact bn h zd
   ·exact bn h zd
 case less=>exact bn (r:=dK S r) h zd
 case leave =>
  unfold fb;split
  ·unfold kJ;dsimp only;split
   ·exact pq h
   ·exact bn h zd
  ·exact bn h zd
 case absent =>
  unfold fq nN;split
  ·exact jF h (λe=>by cases e)
  ·exact jF h (λe=>by cases e)
 case enter =>
  unfold h_;split
  ·exact jF h (λe=>by cases e)
  ·exact bn h zd
 case unlock=>exact bn h zd
 case malformed=>exact Cx (r:={ r with v:=2 }) h
 case count=>exact Cx h
 case add =>
  unfold rq;split
  ·exact vH
  ·exact bn h zd
 case readClock=>exact bn (r:=dK S r) h zd
 case tick =>
  unfold jW;split
  ·exact r_
  ·exact bn h zd
 case claim=>exact bn h zd
 case prepare =>
  unfold dQ kK;split
  ·exact jF h (λe=>by cases e)
  ·exact bn (r:=dK S r) h zd
 case publish =>
  unfold dR;split
  ·exact jF h (λe=>by cases e)
  ·exact bn h zd
 case disclaim=>exact r_
 case stat=>exact r_
 case take=>exact pq (r:={ r with ks:=iR C S r }) h
 case visit =>
  unfold gH;dsimp only;split
  ·exact bn (r:=CB (n8 C S r 5) (dw C S r)) (nY.trans h) zd
  ·exact bn (r:=CB (n8 C S r 5) (dw C S r)) (nY.trans h) zd
 case inspect =>
  unfold dx;dsimp only;split
  ·exact bn (r:=dK S r) h zd
  ·exact pq (r:=dK S r) h
 case finish =>
  unfold fu;split
  ·exact r_
  ·exact zM (r:={ r with st:=r.st+1 }) h zd
 case endOp=>exact r_
 case done=>exact absurd ha hd
theorem Pq(h:En r):En (Lf C S r).2:=by
 unfold Lf;split
 ·rename_i hc
  have hd:r.at_ ≠ .done:=by
   unfold mD at hc;simp only[Bool.and_eq_true,decide_eq_true_eq]at hc;exact hc.1
  have he:r.en=false:=by
   cases e:r.en with
   | false=>rfl
   | true=>exact absurd (h.1 e) hd
  exact R7 (r:={ r with mu:=-1,ki:=true }) he hd
 ·exact h
theorem R8(C:Cf)(t op kd n:Int)(bs l:List UInt8):En (sZ C t op kd n bs l):=by
 unfold sZ;split
 ·unfold xR;split <;> exact jF rfl (λe=>by cases e)
 split
 ·exact jF rfl (λe=>by cases e)
 split
 ·unfold Hh;split <;> exact jF rfl (λe=>by cases e)
 split
 ·exact jF rfl (λe=>by cases e)
 split
 ·exact jF rfl (λe=>by cases e)
 split
 ·unfold xS;split <;> exact jF rfl (λe=>by cases e)
 ·exact jF rfl (λe=>by cases e)
def oC(z:Nat)(rs:List R):Sh:=⟨l7 6 ((z:Int)+1),[],ic (λ_=>[]) 0 rs,[]⟩
theorem ML(z:Nat)(rs:List R)(i:Int):ag (oC z rs).ms i=-1:=by
 unfold oC l7 ag has at_;dsimp only;split
 ·rename_i h;have:=of_decide_eq_true h;rw[List.length_replicate]at this;simp only[List.getD,List.getElem?_replicate];rw[if_pos zo];rfl
 ·rfl
theorem Cy(z:Nat)(rs:List R)(i:Int):af (oC z rs).ms i=0:=by
 unfold oC l7 af has at_;dsimp only;split
 ·rename_i h;have:=of_decide_eq_true h;rw[List.length_replicate]at this;simp only[List.getD,List.getElem?_replicate];rw[if_pos zo];rfl
 ·rfl
theorem R9{z:Nat}{N:Int}{T:Nat->Int}(hc:Iw ⟨z,N,T⟩)(rs:List R):WI ⟨z,N,T⟩ (oC z rs) []:=by
 have hz:z<=4096:=hc.cn;have hN:(1:Int)<=N:=hc.N.1;refine⟨⟨bg.fR _ _,bJ.dN.nil,?_,?_,λf h=>absurd h List.not_mem_nil,?_⟩,λi r h=>by simp at h,λi r h=>by simp at h,λi h=>absurd (ML z rs i) h,?_⟩
 ·show(List.replicate (bg.aQ ((z:Int)+1)) (-1:Int)).length=z+1;rw[List.length_replicate];unfold bg.aQ;rw[if_neg zo,if_neg zo];omega
 ·show 6<=(List.replicate (bg.aQ 6) (0:Int)).length;rw[List.length_replicate];decide
 ·show kG (af (oC z rs).ms 0)<=N;rw[Cy];show(0:Int) / 1099511627776 % 4096<=N;omega
 ·show kG (af (oC z rs).ms 0)=((0:Nat):Int)+wE [];rw[Cy];rfl
theorem R_(z:Nat)(rs:List R):Rm 100000 (oC z rs):=by
 refine⟨?_,?_,?_,?_⟩
 ·show(0:Nat)+100000<=_;omega
 ·show(0:Nat)+100000<=_;omega
 ·show(0:Nat)+100000<=_;omega
 ·show(List.replicate (bg.aQ 6) (0:Int)).length+100000<_;rw[List.length_replicate];decide
end
end Pg
end Go.Proofs.YtbhnbcadgmagpaaGreatDoor
