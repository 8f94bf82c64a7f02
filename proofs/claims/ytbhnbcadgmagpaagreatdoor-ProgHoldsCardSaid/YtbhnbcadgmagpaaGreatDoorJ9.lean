import Derived.Test.YtbhnbcadgmagpaaGreatDoorBig
import Derived.Test.YtbhnbcadgmagpaaGreatDoorJ1
import Derived.Test.YtbhnbcadgmagpaaGreatDoorJ8
import Derived.Test.YtbhnbcadgmagpaaGreatDoorRows
set_option linter.unusedVariables false
set_option linter.unusedSimpArgs false
set_option maxHeartbeats 1000000
set_option maxRecDepth 100000
namespace Go.aE
open Go.Lib Go.aV
open Go.cC (Line sV mj pM pN Ew top cM eM aW lex iP emit close)
structure R where
 acc:Bool
 pr:Nat
 sa:Nat
 sb:Int
 da:Nat
 db:Int
 sl:Nat
 sh:Nat
 dl:Nat
 dh:Nat
deriving DecidableEq
structure R.Ok(r:R):Prop where
 pr:r.pr<256
 sa:r.sa<4294967296
 sb : -9223372036854775808<=r.sb/\r.sb<=9223372036854775807
 da:r.da<4294967296
 db : -9223372036854775808<=r.db/\r.db<=9223372036854775807
 sl:r.sl<65536
 sh:r.sh<65536
 dl:r.dl<65536
 dh:r.dh<65536
def Aq:List UInt8:=[105,99,109,112]
def Jt:List UInt8:=[116,99,112]
def Ju:List UInt8:=[117,100,112]
def dY:List UInt8:=[97,99,99,101,112,116]
def mq:List UInt8:=[100,114,111,112]
def gB(p:Nat):List UInt8:=if p=0 then bY else if p=1 then Aq else if p=6 then Jt else if p=17 then Ju else[]
def known(p:Nat):Bool:=p==0||p==1||p==6||p==17
theorem gb(p:Nat):known p=true↔p=0\/p=1\/p=6\/p=17:=by unfold known;simp[or_assoc]
theorem CT(p:Nat):(gB p==[]) = !known p:=by
 unfold gB known;by_cases h0:p=0
 ·subst h0;rfl
 ·by_cases h1:p=1
  ·subst h1;rfl
  ·by_cases h6:p=6
   ·subst h6;rfl
   ·by_cases vK:p=17
    ·subst vK;rfl
    ·simp[h0,h1,h6,vK]
def bU(a b:Nat):List UInt8:=if a=0/\b=65535 then bY else if a=b then decDigits a else decDigits a++45::decDigits b
def oD(a:Nat)(n:Int):List UInt8:=if n=0 then bY else aX a++(47::decDigits n.toNat)
theorem pO{a:Nat}{n:Int}(h:aj a n=true):eX a n=some (oD a n):=by unfold eX;rw[if_pos h];rfl
theorem Nu{a:Nat}{n:Int}(h:aj a n=false):eX a n=none:=by unfold eX;rw[h];rfl
def tT(b:Bool):List UInt8:=if b=true then dY else mq
def eY(r:R):Bool:=known r.pr&&aj r.sa r.sb&&aj r.da r.db&&decide (r.sl<=r.sh)&&decide (r.dl<=r.dh)
theorem gY(r:R):eY r=true↔known r.pr=true/\aj r.sa r.sb=true/\aj r.da r.db=true/\r.sl<=r.sh/\r.dl<=r.dh:=by
 unfold eY;simp[Bool.and_eq_true,and_assoc]
def oE(r:R):List (List UInt8):=[tT r.acc,gB r.pr,oD r.sa r.sb,bU r.sl r.sh,oD r.da r.db,bU r.dl r.dh]
def XK(w:List UInt8):Prop:=∀b∈w,33<=b.toNat/\b.toNat<=126/\b≠35
instance (w:List UInt8):Decidable (XK w):=inferInstanceAs (Decidable (∀b∈w,_))
theorem Qt(w:List UInt8)(h:XK w):(32:UInt8)∉w:=λhm=>by
 have:=(h 32 hm).1;exact absurd this zd
theorem FQ{r:R}(h:eY r=true):(0<=r.sb/\r.sb<=32)/\0<=r.db/\r.db<=32:=by
 obtain⟨_,h1,h2,_⟩:=(gY r).1 h;exact⟨(df.1 h1).1,(df.1 h2).1⟩
def b9(l:List UInt8):Option Nat:=if sV l=true/\mj l<=65535 then some (mj l)else none
theorem Ex{n:Nat}(h:n<=top):sV (decDigits n)=true:=(pM _).2 ⟨by rw[List.all_eq_true];exact eH n,by rw[fH],by rw[fH];exact h⟩
theorem Jv{n:Nat}(h:n<=top):mj (decDigits n)=n:=by rw[pN (Ex h),fH]
theorem Qu{l:List UInt8}(h:sV l=true):decDigits (mj l)=l:=by
 rw[pN h];exact((pM l).1 h).2.1
theorem bM{l:List UInt8}{n:Nat}:b9 l=some n↔l=decDigits n/\n<=65535:=by
 unfold b9;constructor
 ·intro h;split at h
  ·rename_i hh
   cases h
   exact⟨(Qu hh.1).symm,hh.2⟩
  ·cases h
 ·rintro⟨rfl,h⟩
  have ht:n<=top:=by unfold top;omega
  rw[Ex ht,Jv ht,if_pos ⟨rfl,h⟩]
theorem qQ{n:Nat}(h:n<=65535):b9 (decDigits n)=some n:=bM.2 ⟨rfl,h⟩
theorem Ey(n:Nat):(45:UInt8)∉decDigits n:=qN n 45 zd
theorem Ez(c:UInt8)(p r:List UInt8)(h:c∉p):cut (p++c::r) [c]=(p,r,true):=by
 have hi:=index_hit c p r h;unfold cut;rw[hi,if_pos zo];simp
theorem As(c:UInt8)(p:List UInt8)(h:c∉p):cut p [c]=(p,[],false):=by
 have hi:=lj c p h;unfold cut;rw[hi,if_neg zo]
def vQ(l:List UInt8):List UInt8:=(cut l [45]).1
def lV(l:List UInt8):List UInt8:=if (cut l [45]).2.2=true then(cut l [45]).2.1 else(cut l [45]).1
theorem EA(a b:Nat):vQ (decDigits a++45::decDigits b)=decDigits a/\lV (decDigits a++45::decDigits b)=decDigits b:=by
 unfold vQ lV;rw[Ez 45 _ _ (Ey a)];exact⟨rfl,rfl⟩
theorem EB(a:Nat):vQ (decDigits a)=decDigits a/\lV (decDigits a)=decDigits a:=by
 unfold vQ lV;rw[As 45 _ (Ey a)];exact⟨rfl,rfl⟩
def cI(l:List UInt8):Option (Nat×Nat) :=
 if l=bY then some (0,65535)else
 match b9 (vQ l),b9 (lV l)with
 | some a,some b=>if a<=b/\bU a b=l then some (a,b)else none
 | _,_=>none
theorem FR:cI bY=some (0,65535):=by unfold cI;rw[if_pos rfl]
theorem Jw(a b:Nat)(h:bU a b=bY):a=0/\b=65535:=by
 unfold bU at h;split at h
 ·assumption
 ·exfalso;have hm:(97:UInt8)∈bY:=zd;rw[← h]at hm;split at hm
  ·exact absurd (eH a _ hm) zd
  ·rcases List.mem_append.1 hm with hm | hm
   ·exact absurd (eH a _ hm) zd
   ·rcases List.mem_cons.1 hm with hm | hm
    ·exact absurd hm zd
    ·exact absurd (eH b _ hm) zd
theorem jk{l:List UInt8}{a b:Nat}:cI l=some (a,b)↔a<=b/\b<=65535/\bU a b=l:=by
 unfold cI;constructor
 ·intro h;split at h
  ·rename_i e;subst e
   cases h
   exact⟨by omega,by omega,rfl⟩
  ·split at h
   ·rename_i x y hx hy;split at h
    ·rename_i hh
     cases h
     exact⟨hh.1,(bM.1 hy).2,hh.2⟩
    ·cases h
   ·cases h
 ·rintro⟨h1,h2,rfl⟩;by_cases hA:a=0/\b=65535
  ·obtain⟨rfl,rfl⟩:=hA;rfl
  ·have hne:bU a b≠bY:=λe=>hA (Jw a b e);rw[if_neg hne]
   have e:bU a b=if a=b then decDigits a else decDigits a++45::decDigits b:=by unfold bU;rw[if_neg hA]
   by_cases hab:a=b
   ·subst hab;rw[if_pos rfl]at e;rw[e,(EB a).1,(EB a).2,qQ h2];simp only[];rw[if_pos ⟨h1,e⟩]
   ·rw[if_neg hab]at e;rw[e,(EA a b).1,(EA a b).2,qQ h2,qQ zo];simp only[];rw[if_pos ⟨h1,e⟩]
def cg(w:List UInt8):Option Nat:=if w=bY then some 0 else if w=Aq then some 1 else if w=Jt then some 6 else if w=Ju then some 17 else none
theorem sB{w:List UInt8}{p:Nat}:cg w=some p↔known p=true/\gB p=w:=by
 unfold cg;constructor
 ·intro h;split at h
  ·rename_i e;cases h;subst e;exact⟨rfl,rfl⟩
  ·split at h
   ·rename_i e;cases h;subst e;exact⟨rfl,rfl⟩
   ·split at h
    ·rename_i e;cases h;subst e;exact⟨rfl,rfl⟩
    ·split at h
     ·rename_i e;cases h;subst e;exact⟨rfl,rfl⟩
     ·cases h
 ·rintro⟨hk,rfl⟩
  rcases(gb p).1 hk with rfl | rfl | rfl | rfl <;> rfl
def cN:List (List UInt8)->Option R
 | [v,p,s,sp,d,dp] =>
  if v=dY\/v=mq then
   match cg p,fm s,cI sp,fm d,cI dp with
   | some p,some (sa,sb),some (sl,sh),some (da,db),some (dl,dh)=>some ⟨decide (v=dY),p,sa,sb,da,db,sl,sh,dl,dh⟩
   | _,_,_,_,_=>none
  else none
 | _=>none
theorem nA{l:List UInt8}{a n:Nat}:fm l=some (a,n)↔aj a (n:Int)=true/\a<4294967296/\oD a (n:Int)=l:=by
 constructor
 ·intro h;obtain⟨h1,h2,h3⟩:=Jl h
  cases hv:aj a (n:Int)with
  | false=>rw[Nu hv]at h1;cases h1
  | true=>rw[pO hv]at h1;exact⟨rfl,h2,Option.some.inj h1⟩
 ·rintro⟨h1,h2,h3⟩;have:=Jk h2 (pO h1);rw[h3]at this;simpa using this
theorem sC{ws:List (List UInt8)}{r:R}:cN ws=some r↔eY r=true/\r.Ok/\oE r=ws:=by
 constructor
 ·intro h;unfold cN at h;split at h
  ·rename_i v p s sp d dp;split at h
   ·rename_i hv;split at h
    ·rename_i p' sa sb sl sh da db dl dh h1 h2 h3 h4 h5
     cases h
     obtain⟨a1,a2⟩:=sB.1 h1;obtain⟨b1,b2,b3⟩:=nA.1 h2;obtain⟨c1,c2,c3⟩:=jk.1 h3;obtain⟨d1,d2,d3⟩:=nA.1 h4;obtain⟨e1,e2,e3⟩:=jk.1 h5;have q1:=(df.1 b1).1;have q2:=(df.1 d1).1
     have hp:p'<256:=by rcases(gb p').1 a1 with rfl | rfl | rfl | rfl <;> decide
     refine⟨(gY _).2 ⟨a1,b1,d1,c1,e1⟩,⟨hp,b2,⟨?_,?_⟩,d2,⟨?_,?_⟩,?_,?_,?_,?_⟩,?_⟩
     ·show _<=(sb:Int);omega
     ·show(sb:Int)<=_;omega
     ·show _<=(db:Int);omega
     ·show(db:Int)<=_;omega
     ·show sl<_;omega
     ·show sh<_;omega
     ·show dl<_;omega
     ·show dh<_;omega
     ·unfold oE;show[tT (decide (v=dY)),gB p',oD sa (sb:Int),bU sl sh,oD da (db:Int),bU dl dh]=_;rw[a2,b3,c3,d3,e3];congr 1
      rcases hv with rfl | rfl <;> rfl
    ·cases h
   ·cases h
  ·cases h
 ·rintro⟨hg,ho,rfl⟩;obtain⟨hk,hs,hd,Zl,hdd⟩:=(gY r).1 hg;obtain⟨aK,aZ⟩:=FQ hg;have e1:cg (gB r.pr)=some r.pr:=sB.2 ⟨hk,rfl⟩;have n1:((r.sb.toNat:Nat):Int)=r.sb:=zo;have n2:((r.db.toNat:Nat):Int)=r.db:=zo;have e2:fm (oD r.sa r.sb)=some (r.sa,r.sb.toNat):=nA.2 ⟨by rw[n1];exact hs,ho.sa,by rw[n1]⟩;have e4:fm (oD r.da r.db)=some (r.da,r.db.toNat):=nA.2 ⟨by rw[n2];exact hd,ho.da,by rw[n2]⟩;have e3:cI (bU r.sl r.sh)=some (r.sl,r.sh):=jk.2 ⟨Zl,by have:=ho.sh;omega,rfl⟩;have e5:cI (bU r.dl r.dh)=some (r.dl,r.dh):=jk.2 ⟨hdd,by have:=ho.dh;omega,rfl⟩;unfold oE cN;simp only[e1,e2,e3,e4,e5];obtain⟨acc,pr,sa,sb,da,db,sl,sh,dl,dh⟩:=r;simp only at n1 n2 ⊢;rw[if_pos (by cases acc <;> simp[tT]),n1,n2]
  cases acc <;> rfl
theorem CU{ws:List (List UInt8)}(h:ws.length≠6):cN ws=none:=by
 cases hp:cN ws with
 | none=>rfl
 | some r=>exact absurd (by rw[← (sC.1 hp).2.2];rfl) h
def comp:List R->List Line->List R×Nat×Nat
 | acc,[]=>(acc,0,0)
 | acc,(n,ws)::ls=>if acc.length=64 then([],n,14)else
  match cN ws with
  | some r=>comp (acc++[r]) ls
  | none=>([],n,3)
def aL(l:List UInt8):List R×Nat×Nat:=if cM l=0 then comp [] (aW l)else([],eM l,cM l)
theorem drop_at{ls:List Line}{k n:Nat}{ws:List (List UInt8)}(h:ls[k]? = some (n,ws)):ls.drop k=(n,ws)::ls.drop (k+1):=by
 obtain⟨hlt,he⟩:=List.getElem?_eq_some_iff.1 h;rw[List.drop_eq_getElem_cons hlt,he]
theorem FT{ls:List Line}{k n:Nat}{ws:List (List UInt8)}{acc:List R}(h:ls[k]? = some (n,ws))(ha:acc.length=64):comp acc (ls.drop k)=([],n,14):=by
 rw[drop_at h];unfold comp;rw[if_pos ha]
theorem Jx{ls:List Line}{k n:Nat}{ws:List (List UInt8)}{acc:List R}(h:ls[k]? = some (n,ws))(ha:acc.length≠64)(hp:cN ws=none):comp acc (ls.drop k)=([],n,3):=by
 rw[drop_at h];unfold comp;rw[if_neg ha,hp]
theorem FU{ls:List Line}{k n:Nat}{ws:List (List UInt8)}{acc:List R}{r:R}(h:ls[k]? = some (n,ws))(ha:acc.length≠64)(hp:cN ws=some r):comp acc (ls.drop k)=comp (acc++[r]) (ls.drop (k+1)):=by
 rw[drop_at h,comp,if_neg ha,hp]
theorem Jy{ls:List Line}{k:Nat}{acc:List R}(h:ls.length<=k):comp acc (ls.drop k)=(acc,0,0):=by
 rw[List.drop_eq_nil_of_le h];rfl
theorem qR:∀(ls:List Line) (acc:List R),acc.length<=64->acc.all eY=true->(∀r∈acc,r.Ok) →
  ((comp acc ls).2.2=0->(comp acc ls).1.length<=64/\(comp acc ls).1.all eY=true/\∀r∈(comp acc ls).1,r.Ok)/\((comp acc ls).2.2≠0->(comp acc ls).1=[])/\(comp acc ls).2.2<=14/\((comp acc ls).2.2=0->(comp acc ls).2.1=0):=by
 intro ls
 induction ls with
 | nil=>intro acc h1 h2 h3;exact⟨λ_=>⟨h1,h2,h3⟩,λh=>absurd rfl h,Nat.zero_le _,λ_=>rfl⟩
 | cons x ls ih =>
  intro acc h1 h2 h3
  obtain⟨n,ws⟩:=x
  rw[comp]
  split
  ·exact⟨(λh=>by cases h),zg,Nat.le_refl _,(λh=>by cases h)⟩
  ·split
   ·rename_i r hp;obtain⟨hg,ho,_⟩:=sC.1 hp;refine ih _ zt (by rw[List.all_append,h2];simp[hg]) (λq hq=>?_)
    rcases List.mem_append.1 hq with hq | hq
    ·exact h3 q hq
    ·rw[List.mem_singleton.1 hq];exact ho
   ·exact⟨(λh=>by cases h),zg,(by show 3<=14;omega),(λh=>by cases h)⟩
theorem tU{l:List UInt8}(h:(aL l).2.2=0):(aL l).1.length<=64/\(aL l).1.all eY=true/\(∀r∈(aL l).1,r.Ok)/\(aL l).2.1=0:=by
 unfold aL at h ⊢;split
 ·rename_i h0;rw[if_pos h0]at h;have:=qR (aW l) [] zs rfl (λr hr=>by cases hr);exact⟨(this.1 h).1,(this.1 h).2.1,(this.1 h).2.2,this.2.2.2 h⟩
 ·rename_i h0;rw[if_neg h0]at h;exact absurd h h0
theorem Av{l:List UInt8}(h:(aL l).2.2≠0):(aL l).1=[]:=by
 unfold aL at h ⊢;split
 ·rename_i h0;rw[if_pos h0]at h;exact(qR (aW l) [] zs rfl (λr hr=>by cases hr)).2.1 h
 ·rfl
theorem CV(l:List UInt8):(aL l).2.2<=14/\(aL l).1.length<=64/\(∀r∈(aL l).1,r.Ok):=by
 by_cases h:(aL l).2.2=0
 ·exact⟨by omega,(tU h).1,(tU h).2.2.1⟩
 ·rw[Av h];refine⟨?_,by simp,λr hr=>by cases hr⟩;unfold aL;split
  ·exact(qR (aW l) [] zs rfl (λr hr=>by cases hr)).2.2.1
  ·have:=cC.Jn l;show cM l<=14;omega
end Go.aE
namespace Go.aN
open Go.ChangeShapes Go.WideShapes Go.RowKit Go.Deep
open Go.aE (R)
def fU(r:R):List Value:=[.bool r.acc,.int .u8 (r.pr:Int),.int .u32 (r.sa:Int),.int .i64 r.sb,.int .u32 (r.da:Int),.int .i64 r.db,.int .u16 (r.sl:Int),.int .u16 (r.sh:Int),.int .u16 (r.dl:Int),.int .u16 (r.dh:Int)]
theorem ig(r:R):(fU r).length=10:=rfl
def aI:List R->List Value
 | []=>[]
 | r::rs=>fU r++aI rs
theorem iA:∀rs:List R,(aI rs).length=rs.length*10:=by
 intro rs
 induction rs with
 | nil=>rfl
 | cons r rs ih=>simp[aI,ig,ih];omega
theorem gJ:∀xs ys:List R,aI (xs++ys)=aI xs++aI ys:=by
 intro xs ys
 induction xs with
 | nil=>rfl
 | cons r xs ih=>simp[aI,ih]
theorem Dl:∀(rs:List R) (i j:Nat) (r:R),rs[i]? = some r->j<10->(aI rs)[i*10+j]? = (fU r)[j]?:=by
 intro rs
 induction rs with
 | nil=>intro i j r h;simp at h
 | cons q rs ih =>
  intro i j r h hj
  cases i with
  | zero =>
   simp at h;subst h
   show(fU q++aI rs)[0*10+j]? = _
   rw[List.getElem?_append_left (by rw[ig];omega)]
   congr 1;omega
  | succ i =>
   show(fU q++aI rs)[(i+1)*10+j]? = _
   rw[List.getElem?_append_right (by rw[ig];omega),ig,show(i+1)*10+j - 10=i*10+j by omega]
   exact ih i j r (by simpa using h) hj
section
variable {H:Type}{enc:TypeId×Value->H}{P:Program}{w:World}{base:Nat}{spare:Nat->Bool}{held:Bool}
theorem lF{t t1 t2:TypeId}{k1 k2:IntKind}{fs:Array Field}(hs:P.underlying t=some (.struct fs))(hf:fs.toList.map (λf=>(f.type,f.offset))=[(t1,0),(t2,1)])
  (h1:P.underlying t1=some (.int k1)) (h2:P.underlying t2=some (.int k2)) (c1:P.cellsOf t1=1) (c2:P.cellsOf t2=1) {n:Nat} {a b:Value} {x:DataW H×List MemPlace} (h:DataW.trod enc P w base spare held n t [a,b]=some x) :
  ∃u v:Int,a = .int k1 u/\b = .int k2 v/\(Lit.int k1 u).wf=true/\(Lit.int k2 v).wf=true:=by
 obtain⟨ys,m,_,_,_,Kz,hg⟩:=DataW.trod_struct hs h
 obtain⟨fl⟩:=fs
 obtain⟨f0,f1,rfl⟩:∃f0 f1,fl=[f0,f1]:=by
  rcases fl with _ | ⟨f0,_ | ⟨f1,_ | ⟨f2,fl⟩⟩⟩
  ·simp at hf
  ·simp at hf
  ·exact⟨_,_,rfl⟩
  ·simp at hf
 simp only[List.map_cons,List.map_nil,List.cons.injEq,Prod.mk.injEq,and_true]at hf
 obtain⟨⟨e0,o0⟩,e1,o1⟩:=hf
 have hy:ys.length=2:=Kz
 have g0:=hg 0 f0 rfl
 have g1:=hg 1 f1 rfl
 rw[e0,o0,c1,List.getElem?_eq_getElem zo]at g0
 rw[e1,o1,c2,List.getElem?_eq_getElem zo]at g1
 simp only[List.drop_zero,List.take_succ_cons,List.take_zero,List.drop_succ_cons]at g0 g1
 obtain⟨u,eu,_,wu⟩:=DataW.trod_int h1 g0
 obtain⟨v,ev,_,wv⟩:=DataW.trod_int h2 g1
 exact⟨u,v,by simpa using eu,by simpa using ev,wu,wv⟩
structure rC(P:Program)(t:TypeId):Prop where
 ty:∃(fs fn fp:Array Field) (tb S9 tn ts KA ti Gp:TypeId),P.underlying t=some (.struct fs)/\fs.toList.map (λf=>(f.type,f.offset))=[(tb,0),(S9,1),(tn,2),(tn,4),(ts,6),(ts,8)] ∧
  P.underlying tb=some .bool/\P.underlying S9=some (.int .u8)/\P.underlying tn=some (.struct fn)/\fn.toList.map (λf=>(f.type,f.offset))=[(KA,0),(ti,1)]/\P.underlying KA=some (.int .u32)/\P.underlying ti=some (.int .i64) ∧
  P.underlying ts=some (.struct fp)/\fp.toList.map (λf=>(f.type,f.offset))=[(Gp,0),(Gp,1)]/\P.underlying Gp=some (.int .u16) ∧
  P.cellsOf t=10/\P.cellsOf tb=1/\P.cellsOf S9=1/\P.cellsOf tn=2/\P.cellsOf ts=2/\P.cellsOf KA=1/\P.cellsOf ti=1/\P.cellsOf Gp=1
theorem oK{z:Int}{m:Nat}(h:0<=z/\z<=m):∃n:Nat,z=(n:Int)/\n<=m:=⟨z.toNat,by omega,by omega⟩
theorem KB{t:TypeId}(T:rC P t){n:Nat}{cs:List Value}(hl:cs.length=10){x:DataW H×List MemPlace}(h:DataW.trod enc P w base spare held n t cs=some x):∃r:R,cs=fU r/\r.Ok:=by
 obtain⟨fs,fn,fp,tb,S9,tn,ts,KA,ti,Gp,hs,hf,hb,h8,hn,XX,h32,hi,hp,hpf,h16,ct,cb,c8,cn,cp,XY,ci,c16⟩:=T.ty;obtain⟨ys,m,_,_,_,Kz,hg⟩:=DataW.trod_struct hs h;obtain⟨fl⟩:=fs
 obtain⟨f0,f1,f2,f3,f4,f5,rfl⟩:∃f0 f1 f2 f3 f4 f5,fl=[f0,f1,f2,f3,f4,f5]:=by
  rcases fl with _ | ⟨f0,_ | ⟨f1,_ | ⟨f2,_ | ⟨f3,_ | ⟨f4,_ | ⟨f5,_ | ⟨f6,fl⟩⟩⟩⟩⟩⟩⟩
  ·simp at hf
  ·simp at hf
  ·simp at hf
  ·simp at hf
  ·simp at hf
  ·simp at hf
  ·exact⟨_,_,_,_,_,_,rfl⟩
  ·simp at hf
 match cs,hl with
 | [v0,v1,v2,v3,v4,v5,v6,v7,v8,v9],_ =>
  simp only[List.map_cons,List.map_nil,List.cons.injEq,Prod.mk.injEq,and_true]at hf
  obtain⟨⟨e0,o0⟩,⟨e1,o1⟩,⟨e2,o2⟩,⟨e3,o3⟩,⟨e4,o4⟩,e5,o5⟩:=hf
  have hy:ys.length=6:=Kz
  have g0:=hg 0 f0 rfl
  have g1:=hg 1 f1 rfl
  have g2:=hg 2 f2 rfl
  have g3:=hg 3 f3 rfl
  have g4:=hg 4 f4 rfl
  have g5:=hg 5 f5 rfl
  rw[e0,o0,cb,List.getElem?_eq_getElem zo]at g0
  rw[e1,o1,c8,List.getElem?_eq_getElem zo]at g1
  rw[e2,o2,cn,List.getElem?_eq_getElem zo]at g2
  rw[e3,o3,cn,List.getElem?_eq_getElem zo]at g3
  rw[e4,o4,cp,List.getElem?_eq_getElem zo]at g4
  rw[e5,o5,cp,List.getElem?_eq_getElem zo]at g5
  simp only[List.drop_zero,List.take_succ_cons,List.take_zero,List.drop_succ_cons]at g0 g1 g2 g3 g4 g5
  obtain⟨b,eb,_⟩:=DataW.trod_bool hb g0
  obtain⟨p,ep,_,wp⟩:=DataW.trod_int h8 g1
  obtain⟨a1,b1,rfl,rfl,Zt,Zu⟩:=lF hn XX h32 hi XY ci g2
  obtain⟨a2,b2,rfl,rfl,Zv,Zw⟩:=lF hn XX h32 hi XY ci g3
  obtain⟨a3,b3,rfl,rfl,Zx,Zy⟩:=lF hp hpf h16 h16 c16 c16 g4
  obtain⟨a4,b4,rfl,rfl,Zz,ZA⟩:=lF hp hpf h16 h16 c16 c16 g5
  obtain rfl:v0 = .bool b:=by simpa using eb
  obtain rfl:v1 = .int .u8 p:=by simpa using ep
  obtain⟨p,rfl,hp8⟩:=oK (m:=255) (by have:=bounds_u8 wp;omega)
  obtain⟨a1,rfl,ha1⟩:=oK (m:=4294967295) (by have:=bounds_u32 Zt;omega)
  obtain⟨a2,rfl,XJ⟩:=oK (m:=4294967295) (by have:=bounds_u32 Zv;omega)
  obtain⟨a3,rfl,ha3⟩:=oK (m:=65535) (by have:=bounds_u16 Zx;omega)
  obtain⟨b3,rfl,eP⟩:=oK (m:=65535) (by have:=bounds_u16 Zy;omega)
  obtain⟨a4,rfl,ha4⟩:=oK (m:=65535) (by have:=bounds_u16 Zz;omega)
  obtain⟨b4,rfl,hb4⟩:=oK (m:=65535) (by have:=bounds_u16 ZA;omega)
  have q1:=bounds_i64 Zu
  have q2:=bounds_i64 Zw
  exact⟨⟨b,p,a1,b1,a2,b2,a3,b3,a4,b4⟩,rfl,⟨by show p<_;omega,by show a1<_;omega,⟨by show _<=b1;omega,by show b1<=_;omega⟩,by show a2<_;omega,⟨by show _<=b2;omega,by show b2<=_;omega⟩,by show a3<_;omega,by show b3<_;omega,by show a4<_;omega,by show b4<_;omega⟩⟩
def gK(w:World)(B:Nat)(v:Value)(rs:List R):Prop :=
 ∃A cap,v = .slice A rs.length cap/\rs.length<=cap/\cap<=maxLen/\(0<rs.length->∃b off,A=some ⟨b,off,none⟩/\b<B/\∀j u,(aI rs)[j]? = some u->w.cell? ⟨b,off+j,none⟩=some u)
theorem oL(b off j:Nat):Addr.add ⟨b,off,none⟩ j=⟨b,off+j,none⟩:=by unfold Addr.add;split <;> simp_all
theorem gK.keep{w w':World}{B:Nat}{v:Value}{rs:List R}(h:gK w B v rs)(hk:∀p:Addr,p.block<B->w'.cell? p=w.cell? p):gK w' B v rs:=by
 obtain⟨A,cap,h1,h2,h3,h4⟩:=h;refine⟨A,cap,h1,h2,h3,λhn=>?_⟩;obtain⟨b,off,e,hb,hc⟩:=h4 hn;exact⟨b,off,e,hb,λj u hu=>(hk _ hb).trans (hc j u hu)⟩
theorem gK.mono{w:World}{B B':Nat}{v:Value}{rs:List R}(h:gK w B v rs)(hB:B<=B'):gK w B' v rs:=by
 obtain⟨A,cap,h1,h2,h3,h4⟩:=h;refine⟨A,cap,h1,h2,h3,λhn=>?_⟩;obtain⟨b,off,e,hb,hc⟩:=h4 hn;exact⟨b,off,e,by omega,hc⟩
theorem gK.below{w w':World}{v:Value}{rs:List R}(h:gK w w.heap.size v rs)(hb:Below w.heap.size w w'):gK w' w'.heap.size v rs :=
 (h.keep λ_ hp=>hb.cell hp).mono hb.size
theorem gK.nil(w:World)(B:Nat):gK w B (.slice none 0 0) []:=⟨none,0,rfl,Nat.le_refl _,Nat.zero_le _,λh=>absurd h zs⟩
theorem gK.len{w:World}{B:Nat}{v:Value}{rs:List R}(h:gK w B v rs):∃A c,v = .slice A rs.length c/\rs.length<=c/\c<=maxLen:=by
 obtain⟨A,cap,h1,h2,h3,_⟩:=h;exact⟨A,cap,h1,h2,h3⟩
theorem gK.at_{w:World}{B:Nat}{v:Value}{rs:List R}(h:gK w B v rs){k:Nat}{r:R}(hk:rs[k]? = some r) :
  ∃b off cap,v = .slice (some ⟨b,off,none⟩) rs.length cap/\b<B/\∀j u,(fU r)[j]? = some u->w.cell? ⟨b,off+(k*10+j),none⟩=some u:=by
 obtain⟨A,cap,h1,h2,h3,h4⟩:=h
 have hlt:=(List.getElem?_eq_some_iff.1 hk).1
 obtain⟨b,off,rfl,hb,hc⟩:=h4 zo
 refine⟨b,off,cap,h1,hb,λj u hu=>hc _ _ ?_⟩
 have hj:j<10:=by have:=(List.getElem?_eq_some_iff.1 hu).1;rwa [ig]at this
 rw[Dl rs k j r hk hj,hu]
theorem Dm(rs:List R)(m j:Nat)(u:Value)(h:(aI (rs.take m))[j]? = some u):(aI rs)[j]? = some u:=by
 have e:aI rs=aI (rs.take m)++aI (rs.drop m):=by rw[← gJ,List.take_append_drop]
 rw[e,List.getElem?_append_left (List.getElem?_eq_some_iff.1 h).1,h]
theorem gK.front{w:World}{B:Nat}{A:Option Addr}{cap n:Nat}{rs:List R}(h:gK w B (.slice A n cap) rs)(m:Nat)(hm:m<=rs.length):gK w B (.slice A m cap) (rs.take m):=by
 obtain⟨A',cap',h1,h2,h3,h4⟩:=h;injection h1 with e1 e2 e3;subst e1 e3
 have hl:(rs.take m).length=m:=by rw[List.length_take];omega
 refine⟨A,cap,by rw[hl],by omega,h3,λhn=>?_⟩;obtain⟨b,off,e,hb,hc⟩:=h4 zo;exact⟨b,off,e,hb,λj u hu=>hc j u (Dm rs m j u hu)⟩
theorem gK.oH{w:World}{S_ T:Nat}{v:Value}{rs:List R}(h:w.ownsRow S_ T 10 v rs.length (aI rs)):gK w w.heap.size v rs:=by
 rcases h.2 with⟨h1,h2⟩ | ⟨g,cap,cur,h1,h2,h3,h4,h5,h6,h7⟩
 ·exact⟨none,0,by rw[h1,h2],by omega,Nat.zero_le _,λhn=>by omega⟩
 ·refine⟨_,cap,h1,h4,h5,λhn=>⟨g,0,rfl,(Array.getElem?_eq_some_iff.1 h3).1,λj u hu=>?_⟩⟩;have hj:=(List.getElem?_eq_some_iff.1 hu).1;rw[cell_of_row w g (0+j) cur T (0,0) h3,Nat.zero_add];have e:cur.toList.take (rs.length*10)=aI rs:=h7;rw[← e,List.getElem?_take]at hu;split at hu
  ·simpa using hu
  ·cases hu
theorem Dn{t e:TypeId}(T:rC P e)(ht:P.underlying t=some (.slice e)){n:Nat}{A:Option Addr}{len cap:Nat}{d:DataW H}{p:List MemPlace}
  (h:DataW.Trod enc P w 0 (λ_=>true) true t (.slice A len cap) d p):∃rs:List R,gK w w.heap.size (.slice A len cap) rs/\∀r∈rs,r.Ok:=by
 obtain⟨fs,fn,fp,tb,S9,tn,ts,KA,ti,Gp,hs,_,_,_,_,_,_,_,_,_,_,ct,_⟩:=T.ty
 obtain⟨fuel,hf⟩:=h
 rcases open_slice ht hf with⟨hcs,_⟩ | ⟨a,l,c,m,n',D,Pl,hcs,hb,hl,hm,hmm,_,hi⟩
 ·simp[Value.cells]at hcs;obtain⟨rfl,rfl,rfl⟩:=hcs;exact⟨[],gK.nil _ _,λr hr=>by cases hr⟩
 ·simp[Value.cells]at hcs;obtain⟨rfl,rfl,rfl⟩:=hcs;simp at hmm;subst hmm;rw[ct]at hi
  have each:∀i,i<len->∃r:R,r.Ok/\∀j,j<10->w.cell? (a.add (i*10+j))=(fU r)[j]?:=by
   intro i hlt;obtain⟨cs',hc,htr⟩:=hi i zo;obtain⟨_,hcl,Qv⟩:=World.cells?_some hc;obtain⟨r,hr,ho⟩:=KB T hcl htr;refine⟨r,ho,λj hj=>?_⟩;rw[← hr,← Go.Deep.add_add];exact Qv j hj
  have all:∀k,k<=len->∃rs:List R,rs.length=k/\(∀r∈rs,r.Ok)/\∀j u,(aI rs)[j]? = some u->w.cell? (a.add j)=some u:=by
   intro k
   induction k with
   | zero=>intro _;exact⟨[],rfl,(λr hr=>by cases hr),(λj u hu=>by simp[aI]at hu)⟩
   | succ k ih =>
    intro hk
    obtain⟨rs,h1,h2,h3⟩:=ih zo
    obtain⟨r,ho,hc⟩:=each k zo
    refine⟨rs++[r],by simp[h1],λq hq=>?_,λj u hu=>?_⟩
    ·rcases List.mem_append.1 hq with hq | hq
     ·exact h2 q hq
     ·rw[List.mem_singleton.1 hq];exact ho
    ·rw[gJ]at hu;by_cases hj:j<(aI rs).length
     ·rw[List.getElem?_append_left hj]at hu;exact h3 j u hu
     ·rw[List.getElem?_append_right zo,iA,h1]at hu;rw[iA,h1]at hj
      have e2:aI [r]=fU r:=by simp[aI]
      rw[e2]at hu
      have hj2:j - k*10<10:=by have:=(List.getElem?_eq_some_iff.1 hu).1;rwa [ig]at this
      have:=hc (j - k*10) hj2;rw[show k*10+(j - k*10)=j by omega,hu]at this;exact this
  obtain⟨rs,h1,h2,h3⟩:=all len zl;refine⟨rs,⟨some a,m,by rw[h1],by omega,hm,λhn=>?_⟩,h2⟩;obtain⟨b,off,sp⟩:=a;have h0:∃u,(aI rs)[0]? = some u:=⟨_,List.getElem?_eq_getElem (by rw[iA];omega)⟩;obtain⟨u0,XZ⟩:=h0
  obtain rfl:sp=none:=by simpa[Addr.add]using World.cell?_spot (h3 0 u0 XZ)
  have hbk:=World.block_lt_of_cell? _ _ (h3 0 u0 XZ);exact⟨b,off,rfl,by simpa[Addr.add]using hbk,λj u hu=>by rw[← oL b off j];exact h3 j u hu⟩
end
end Go.aN
namespace Go.Proofs.YtbhnbcadgmagpaaGreatDoor
open Go.ChangeShapes Go.WideShapes Go.ChangeAt Go.RowKit Go.aN Go.Lib
namespace Ru
open aE (R gB known cg gb)
open aV (bY)
abbrev uT:ByteArray:=⟨#[97,110,121]⟩
abbrev ow:ByteArray:=⟨#[105,99,109,112]⟩
abbrev zi:ByteArray:=⟨#[116,99,112]⟩
abbrev BK:ByteArray:=⟨#[117,100,112]⟩
def E9:Array MapEntry:=#[{ key:=.string uT,val:=.int .u8 0,born:=0 }]
def GQ:Array MapEntry:=E9.push { key:=.string ow,val:=.int .u8 1,born:=1 }
def I6:Array MapEntry:=GQ.push { key:=.string zi,val:=.int .u8 6,born:=2 }
def pm:Array MapEntry:=I6.push { key:=.string BK,val:=.int .u8 17,born:=3 }
theorem uk{α:Type}(h:Array α)(x y:α):(h.push x).setIfInBounds h.size y=h.push y:=by
 apply Array.toList_inj.1;simp
theorem nJ{P:Program}{t k e:TypeId}(ht:P.underlying t=some (.map k e))(hk:P.underlying k=some .string)(w:World)(es:Array MapEntry)(clock:Nat)(s:ByteArray)(v:Value)
  (hs:∀x∈es.toList,MapKept.IsKey .string x.key) (hn:∀x∈es.toList,x.key ≠ .string s) :
  (Instr.mapUpdate t (.map (some w.heap.size)) (.string s) v).run P (w.alloc (.map es clock)) = .ok () (w.alloc (.map (es.push { key:=.string s,val:=v,born:=clock }) (clock+1))):=by
 have hb:(w.alloc (.map es clock)).heap[w.heap.size]? = some (.map es clock):=heap_alloc_new _ _
 have hf:Instr.findNow .string (.string s) es.toList 0=some none:=by
  rcases MapKept.findNow_spec (d:=.string) (k:=.string s) trivial es.toList 0 hs with⟨h,_⟩ | ⟨j,e',_,h2,h3⟩
  ·exact h
  ·exact absurd h3 (hn e' (List.mem_of_getElem? h2))
 have qg:(setObj w.heap.size (.map (es.push { key:=.string s,val:=v,born:=clock }) (clock+1))).run P (w.alloc (.map es clock)) = .ok () (w.alloc (.map (es.push { key:=.string s,val:=v,born:=clock }) (clock+1))):=by
  rw[MapKept.run_setObj_map _ hb];show Result.ok () ({ w.alloc (.map es clock)with heap:=(w.heap.push (.map es clock)).setIfInBounds w.heap.size (.map (es.push { key:=.string s,val:=v,born:=clock }) (clock+1)) }:World)=_;rw[uk];rfl
 simp[Instr.mapUpdate,run_underlying ht,MapKept.run_getObj_map hb,MapKept.run_checkKey hk (k:=.string s) trivial,MapKept.run_findKey hk hf,qg,Result.andThen]
theorem VO(w:World):(Instr.mapUpdate 222 (.map (some w.heap.size)) (.string uT) (.int .u8 0)).run Tryz.prog (w.alloc (.map #[] 0)) = .ok () (w.alloc (.map E9 1)) :=
 nJ Tryz.underlying222 Tryz.underlying9 w #[] 0 uT _ (by intro x hx;simp at hx) (by intro x hx;simp at hx)
theorem E_{x:MapEntry}(h:x∈E9.toList):x.key = .string uT:=by simp[E9]at h;rw[h]
theorem Fa{x:MapEntry}(h:x∈GQ.toList):x.key = .string uT\/x.key = .string ow:=by
 simp[GQ,E9]at h;rcases h with h | h <;> simp[h]
theorem Fb{x:MapEntry}(h:x∈I6.toList):x.key = .string uT\/x.key = .string ow\/x.key = .string zi:=by
 simp[I6,GQ,E9]at h;rcases h with h | h | h <;> simp[h]
theorem lM{a b:List UInt8}(h:a≠b):Value.string ⟨a.toArray⟩≠Value.string ⟨b.toArray⟩:=by
 intro e;injection e with e;exact h (by simpa using congrArg (λx:ByteArray=>x.data.toList) e)
theorem VP(w:World):(Instr.mapUpdate 222 (.map (some w.heap.size)) (.string ow) (.int .u8 1)).run Tryz.prog (w.alloc (.map E9 1)) = .ok () (w.alloc (.map GQ 2)) :=
 nJ Tryz.underlying222 Tryz.underlying9 w E9 1 ow _ (by intro x hx;rw[E_ hx];trivial) (by intro x hx;rw[E_ hx];exact lM zd)
theorem VQ(w:World):(Instr.mapUpdate 222 (.map (some w.heap.size)) (.string zi) (.int .u8 6)).run Tryz.prog (w.alloc (.map GQ 2)) = .ok () (w.alloc (.map I6 3)) :=
 nJ Tryz.underlying222 Tryz.underlying9 w GQ 2 zi _ (by intro x hx;rcases Fa hx with h | h <;> rw[h] <;> trivial) (by intro x hx;rcases Fa hx with h | h <;> rw[h] <;> exact lM zd)
theorem VR(w:World):(Instr.mapUpdate 222 (.map (some w.heap.size)) (.string BK) (.int .u8 17)).run Tryz.prog (w.alloc (.map I6 3)) = .ok () (w.alloc (.map pm 4)) :=
 nJ Tryz.underlying222 Tryz.underlying9 w I6 3 BK _ (by intro x hx;rcases Fb hx with h | h | h <;> rw[h] <;> trivial) (by intro x hx;rcases Fb hx with h | h | h <;> rw[h] <;> exact lM zd)
theorem ox(w:World):Calls Tryz.prog 160 #[] w λe w'=>e = .returned (.map (some w.heap.size))/\w'=w.alloc (.map pm 4):=by
 have h0:=run_makeMap (P:=Tryz.prog) 222 w;have h1:=VO w;have h2:=VP w;have h3:=VQ w;have h4:=VR w;go_in;go_wp2_with fail;go_ret;exact⟨rfl,rfl⟩
theorem Q1{x:MapEntry}(h:x∈pm.toList):∃p:Nat,p<256/\x.key = .string ⟨(gB p).toArray⟩/\x.val = .int .u8 (p:Int)/\known p=true:=by
 simp[pm,I6,GQ,E9]at h
 rcases h with h | h | h | h
 ·exact⟨0,by omega,by rw[h];rfl,by rw[h];rfl,rfl⟩
 ·exact⟨1,by omega,by rw[h];rfl,by rw[h];rfl,rfl⟩
 ·exact⟨6,by omega,by rw[h];rfl,by rw[h];rfl,rfl⟩
 ·exact⟨17,by omega,by rw[h];rfl,by rw[h];rfl,rfl⟩
theorem Q2{p:Nat}(h:known p=true):∃x∈pm.toList,x.val = .int .u8 (p:Int):=by
 rcases(gb p).1 h with rfl | rfl | rfl | rfl
 ·exact⟨{ key:=.string uT,val:=.int .u8 0,born:=0 },by simp[pm,I6,GQ,E9],rfl⟩
 ·exact⟨{ key:=.string ow,val:=.int .u8 1,born:=1 },by simp[pm,I6,GQ,E9],rfl⟩
 ·exact⟨{ key:=.string zi,val:=.int .u8 6,born:=2 },by simp[pm,I6,GQ,E9],rfl⟩
 ·exact⟨{ key:=.string BK,val:=.int .u8 17,born:=3 },by simp[pm,I6,GQ,E9],rfl⟩
theorem oM:MapKept.Stamped pm 4:=by
 refine⟨λx hx=>?_,by decide,?_⟩
 ·simp[pm,I6,GQ,E9]at hx
  rcases hx with h | h | h | h <;> rw[h] <;> decide
 ·have e:pm.toList.map (·.key)=[Value.string uT,.string ow,.string zi,.string BK]:=rfl;rw[e];simp only[List.nodup_cons,List.mem_cons,List.not_mem_nil,or_false,not_or,List.nodup_nil,and_true];exact⟨⟨lM zd,lM zd,lM zd⟩,⟨lM zd,lM zd⟩,lM zd,λh=>h⟩
theorem BM{p q:List UInt8}{b c:Bool}(h:p=q)(h2:b=c):Ending.returned (.tuple #[.string ⟨p.toArray⟩,.bool b]) = .returned (.tuple #[.string ⟨q.toArray⟩,.bool c]):=by rw[h,h2]
theorem Fc{p:Nat}(h:known p=false):gB p=[]:=by
 have:=aE.CT p;rw[h]at this;simpa using this
open Go.ChangeMaps (setBlock)
theorem j8{w:World}{r:Nat}(o:Obj)(h:r<w.heap.size):(setBlock w r o).heap[r]? = some o:=by simp[setBlock,h]
theorem fc{w:World}{r k:Nat}(o:Obj)(h:k≠r):(setBlock w r o).heap[k]? = w.heap[k]?:=by simp[setBlock,Ne.symm h]
theorem uU{B:Nat}{v w:World}{r:Nat}(o:Obj)(hb:Below B v w)(h:B<=r):Below B v (setBlock w r o) :=
 hb.trans ⟨rfl,rfl,rfl,by simp[setBlock],λi hi=>fc o zo⟩
theorem gq{w:World}{r m a c:Nat}{s:Array Nat}(h:w.heap[r]? = some (.mapIter (some m) a s c)):w.iterSeen r=s:=by unfold World.iterSeen;rw[h]
def Dy(w:World)(bm r p:Nat)(wr:World):Prop :=
 ∃seen,wr.heap[r]? = some (.mapIter (some bm) 4 seen 4)/\wr.heap[bm]? = some (.map pm 4)/\Below w.heap.size w wr/\∀x∈pm.toList,seen.contains x.born=true->x.val ≠ .int .u8 (p:Int)
theorem aO(p:Nat)(hp:p<256)(w:World) :
  Calls Tryz.prog 129 #[.int .u8 (p:Int)] w λe w'=>e = .returned (.tuple #[.string ⟨(gB p).toArray⟩,.bool (known p)])/\Below w.heap.size w w':=by
 have j1:(w.alloc (.map pm 4)).heap[w.heap.size]? = some (.map pm 4):=heap_alloc_new _ _
 have UI:=run_range_map (P:=Tryz.prog) (w.alloc (.map pm 4)) 222 9 5 w.heap.size pm 4 Tryz.underlying222 j1
 have HI:Hid (Dy w w.heap.size (w.heap.size+1) p ((w.alloc (.map pm 4)).alloc (.mapIter (some w.heap.size) 4 #[] 4))):=by
  refine⟨#[],?_,?_,((Below.refl _ _).alloc zl _).alloc zs _,λx _ h=>by simp at h⟩
  ·have:=heap_alloc_new (w.alloc (.map pm 4)) (.mapIter (some w.heap.size) 4 #[] 4);rw[World.size_alloc]at this;exact this
  ·rw[heap_alloc_old _ _ zs];exact j1
 clear j1
 rw[World.size_alloc]at UI
 go_in
 go_wp2_with fail
 refine(ox w).mono ?_
 rintro e w' ⟨rfl,rfl⟩
 go_wp2_with fail
 clear UI
 go_loopw [] (λwr=>Hid (Dy w w.heap.size (w.heap.size+1) p wr)) (λwr=>(leftOf pm (wr.iterSeen (w.heap.size+1))).size)
 case atStart=>exact HI
 case round =>
  obtain⟨seen,hr,hb,hbel,hno⟩:=hrel.out;have VS:=hid (gq hr);have hrl:w.heap.size+1<wr.heap.size:=(Array.getElem?_eq_some_iff.1 hr).1;have law:=run_next_at (P:=Tryz.prog) wr 0 (w.heap.size+1) w.heap.size 4 4 seen pm 4 hr hb oM.1 zl
  rcases law with⟨h0,hrun⟩ | ⟨e,he,w2,uO,hrun⟩
  ·have hk:known p=false:=by
    cases hk:known p with
    | false=>rfl
    | true =>
     obtain⟨x,hx,hv⟩:=Q2 hk
     exact absurd hv (hno x hx (all_seen pm seen h0 x hx))
   have HK:=hid hk;have Od:=hid hbel;have UJ:∀ty,(Instr.next (.pointer (some ⟨w.heap.size+1,0,none⟩)) false ty).run Tryz.prog wr=_:=λ_=>hrun;clear hr hb hbel hno h0 hrun hk hrl;go_wp2_with fail;go_ret2;exact⟨BM (Fc HK.out).symm HK.out.symm,Od.out⟩
  ·obtain⟨q,hq,hkey,hval,hkn⟩:=Q1 (mem_left he).1;rw[hkey,hval]at hrun;have UJ:∀ty,(Instr.next (.pointer (some ⟨w.heap.size+1,0,none⟩)) false ty).run Tryz.prog wr=_:=λ_=>hrun
   have aZ:Below w.heap.size w w2:=by rcases uO with rfl | rfl;exact hbel;exact hbel.drew
   have jc:w2.heap=wr.heap:=by rcases uO with rfl | rfl <;> rfl
   have hr3:=j8 (w:=w2) (r:=w.heap.size+1) (.mapIter (some w.heap.size) 4 (seen.push e.born) 4) (by rw[jc];exact hrl);have eP:(setBlock w2 (w.heap.size+1) (.mapIter (some w.heap.size) 4 (seen.push e.born) 4)).heap[w.heap.size]? = some (.map pm 4):=(fc _ zo).trans (by rw[jc];exact hb);have iS:=run_entry_at (P:=Tryz.prog) (setBlock w2 (w.heap.size+1) (.mapIter (some w.heap.size) 4 (seen.push e.born) 4)) (w.heap.size+1) w.heap.size 4 seen pm 4 e hr3 eP (mem_left he).1 oM.2.1;have Q3:=uU (.mapIter (some w.heap.size) 4 (seen.push e.born) 4) aZ (show w.heap.size<=w.heap.size+1 by omega);rw[hkey,hval]at iS;have HM:Hid ((leftOf pm (seen.push e.born)).size<(leftOf pm seen).size):=left_shrinks pm seen e he;have Tp:=hid (gq hr3)
   have HE:Hid (q≠p->Dy w w.heap.size (w.heap.size+1) p (setBlock w2 (w.heap.size+1) (.mapIter (some w.heap.size) 4 (seen.push e.born) 4))):=λhne=>by
    refine⟨_,hr3,eP,Q3,λx hx hc=>?_⟩;rw[contains_push]at hc
    rcases Bool.or_eq_true _ _▸hc with h1 | h1
    ·exact hno x hx h1
    ·have:x=e:=born_inj oM.2.1 hx (mem_left he).1 (beq_iff_eq.1 h1);subst this;rw[hval];intro e2;injection e2 with _ e2;omega
   have Od:=hid Q3;generalize setBlock w2 (w.heap.size+1) (.mapIter (some w.heap.size) 4 (seen.push e.born) 4)=w3 at *;clear hr hb hbel hno hrun hkey hval uO aZ jc hr3 eP Q3 he hrl;by_cases VT:q=p
   ·subst VT;have MX:=hid hkn;clear hkn;go_wp2_with fail;go_ret2;exact⟨BM rfl MX.out.symm,Od.out⟩
   ·have HQ:=hid VT
    have hd:((q:Int)==(p:Int))=false:=by rw[beq_eq_false_iff_ne];omega
    clear hkn VT;go_wp2_with fail;go_roundw
    case rel=>exact HE.out HQ.out
    case measure=>rw[Tp.out,VS.out];exact HM.out
end Ru
end Go.Proofs.YtbhnbcadgmagpaaGreatDoor
namespace Go.aE
open Go.Lib Go.aV
open Go.cC (Line cM eM aW fI)
theorem LC:∀(ws:List (List UInt8)) (x:List UInt8),x∈ws->x.length<=(join 32 ws).length:=by
 intro ws
 induction ws with
 | nil=>intro x h;cases h
 | cons w ws ih =>
  intro x h
  cases ws with
  | nil=>rw[List.mem_singleton.1 h];exact Nat.le_refl _
  | cons v ws =>
   show _<=(w++32::join 32 (v::ws)).length
   rw[List.length_append,List.length_cons]
   rcases List.mem_cons.1 h with rfl | h
   ·omega
   ·have:=ih x h;omega
theorem G0:∀(ls:List Line) (m n:Nat) (ws:List (List UInt8)) (x:List UInt8),(n,ws)∈ls->x∈ws->x.length<=(fI m ls).length:=by
 intro ls
 induction ls with
 | nil=>intro m n ws x h;cases h
 | cons q ls ih =>
  intro m n ws x h hx
  obtain⟨n',Yo⟩:=q
  show _<=(List.replicate (n' - m) 10++(join 32 Yo++fI n' ls)).length
  rw[List.length_append,List.length_append]
  rcases List.mem_cons.1 h with h | h
  ·cases h
   have:=LC ws x hx;omega
  ·have:=ih n' n ws x h hx;omega
theorem LD:∀(ls:List Line) (m n:Nat) (ws:List (List UInt8)),cC.Good m ls->(n,ws)∈ls->∀x∈ws,cC.Clean x:=by
 intro ls
 induction ls with
 | nil=>intro m n ws _ h;cases h
 | cons q ls ih =>
  intro m n ws hg h
  obtain⟨n',Yo⟩:=q
  rcases List.mem_cons.1 h with h | h
  ·cases h;exact hg.2.2.1
  ·exact ih _ n ws hg.2.2.2 h
theorem LF{l:List UInt8}(h:cM l=0){n:Nat}{ws:List (List UInt8)}(hm:(n,ws)∈aW l):∀x∈ws,x.length<=4096/\(32:UInt8)∉x:=by
 obtain⟨h1,h2,_,_⟩:=cC.again h;obtain⟨h3,_⟩:=cC.tQ h;intro x hx;refine⟨?_,?_⟩
 ·have:=G0 (aW l) 1 n ws x hm hx;omega
 ·exact Qt x (LD _ _ n ws h1 hm x hx).2
end Go.aE
