import Derived.Test.YtbhnbcadgmagpaaGreatDoorBig
import Derived.Test.YtbhnbcadgmagpaaGreatDoorJ1
set_option linter.unusedVariables false
set_option linter.unusedSimpArgs false
namespace Go.aV
open Go.Lib
def fh:Nat->List UInt8->Nat
 | a,[]=>a
 | a,c::r=>fh (10*a+(c.toNat - 48)) r
def gV(c:UInt8):Bool:=48<=c.toNat&&c.toNat<=57
theorem mh(l r:List UInt8):∀a,fh a (l++r)=fh (fh a l) r:=by
 induction l with
 | nil=>intro a;rfl
 | cons c l ih=>intro a;exact ih _
theorem iZ(u:Nat)(h:u<10):(UInt8.ofNat (48+u)).toNat=48+u:=by
 rw[UInt8.toNat_ofNat'];omega
theorem wP(u:Nat)(h:u<10):gV (UInt8.ofNat (48+u))=true:=by
 unfold gV;rw[iZ u h,Bool.and_eq_true,decide_eq_true_iff,decide_eq_true_iff];omega
theorem fH:∀n,fh 0 (decDigits n)=n:=by
 intro n
 induction n using Nat.strongRecOn with
 | ind n ih =>
  by_cases h:n<10
  ·rw[decDigits,dif_pos h];show 10*0+((UInt8.ofNat (48+n)).toNat - 48)=n;rw[iZ n h];omega
  ·rw[decDigits,dif_neg h,mh,ih (n / 10) zo];show 10*(n / 10)+((UInt8.ofNat (48+n % 10)).toNat - 48)=n;rw[iZ (n % 10) zo];omega
theorem eH:∀n,∀c∈decDigits n,gV c=true:=by
 intro n
 induction n using Nat.strongRecOn with
 | ind n ih =>
  by_cases h:n<10
  ·rw[decDigits,dif_pos h];intro c hc;rw[List.mem_singleton.1 hc];exact wP n h
  ·rw[decDigits,dif_neg h];intro c hc
   rcases List.mem_append.1 hc with hc | hc
   ·exact ih (n / 10) zo c hc
   ·rw[List.mem_singleton.1 hc];exact wP _ zo
theorem pI(n:Nat):decDigits n≠[]:=by
 rw[decDigits];split <;> simp
theorem bO:∀(k n:Nat),n<10 ^ (k+1)->(decDigits n).length<=k+1:=by
 intro k
 induction k with
 | zero=>intro n h;rw[decDigits,dif_pos zo];simp
 | succ k ih =>
  intro n h
  rw[decDigits]
  split
  ·simp
  ·rename_i h10;have:=ih (n / 10) (by rw[Nat.pow_succ]at h;omega);simp;omega
def Nl(l:List UInt8):Option Nat:=if l.all gV=true/\decDigits (fh 0 l)=l then some (fh 0 l)else none
theorem wQ{l:List UInt8}{n:Nat}:Nl l=some n↔l=decDigits n:=by
 unfold Nl;constructor
 ·intro h;split at h
  ·rename_i hh;cases h;exact hh.2.symm
  ·cases h
 ·rintro rfl;rw[if_pos ⟨by rw[List.all_eq_true];exact eH n,by rw[fH]⟩,fH]
theorem Jj(n:Nat):Nl (decDigits n)=some n:=wQ.2 rfl
def bT(l:List UInt8):Option Nat :=
 match Nl l with
 | some n=>if n<=255 then some n else none
 | none=>none
theorem bL{l:List UInt8}{n:Nat}:bT l=some n↔l=decDigits n/\n<=255:=by
 unfold bT;constructor
 ·intro h;split at h
  ·rename_i m hm;split at h
   ·cases h;exact⟨wQ.1 hm,by assumption⟩
   ·cases h
  ·cases h
 ·rintro⟨rfl,h⟩;rw[Jj];simp[h]
theorem ja{n:Nat}(h:n<=255):bT (decDigits n)=some n:=bL.2 ⟨rfl,h⟩
theorem dL{l:List UInt8}{n:Nat}(h:bT l=some n):n<=255:=(bL.1 h).2
theorem vM:∀n:Fin 256,parseUintB 8 (decDigits n.val) = .ok n.val:=by decide +kernel
theorem wR{n:Nat}(h:n<=255):parseUintB 8 (decDigits n) = .ok n:=vM ⟨n,by omega⟩
theorem jM{l:List UInt8}{u:Nat}(h:parseUintB 8 l = .ok u):bT l=if decDigits u=l then some u else none:=by
 have hu:u<=255:=by have:=parseUintB_le h;omega
 split
 ·rename_i e;subst e;exact ja hu
 ·rename_i e
  cases hb:bT l with
  | none=>rfl
  | some n =>
   obtain⟨e1,e2⟩:=bL.1 hb
   subst e1
   rw[wR e2]at h
   cases h
   exact absurd rfl e
theorem ji{l:List UInt8}(h:∀u,parseUintB 8 l ≠ .ok u):bT l=none:=by
 cases hb:bT l with
 | none=>rfl
 | some n =>
  obtain⟨e1,e2⟩:=bL.1 hb
  subst e1
  exact absurd (wR e2) (h n)
def pieces(c:UInt8):List UInt8->List (List UInt8)
 | []=>[[]]
 | b::l=>if b=c then[]::pieces c l else
  match pieces c l with
  | p::ps=>(b::p)::ps
  | []=>[[b]]
theorem kr(c:UInt8)(l:List UInt8):pieces c l≠[]:=by
 cases l with
 | nil=>simp[pieces]
 | cons b l =>
  unfold pieces
  split
  ·simp
  ·split <;> simp
theorem aas(c:UInt8):∀(p r:List UInt8),c∉p->pieces c (p++c::r)=p::pieces c r:=by
 intro p
 induction p with
 | nil=>intro r _;simp[pieces]
 | cons b p ih =>
  intro r h
  have hb:b≠c:=λe=>h (by simp[e])
  have hp:c∉p:=λe=>h (by simp[e])
  show(if b=c then _ else _)=_
  rw[if_neg hb]
  show(match pieces c (p++c::r)with | p::ps=>(b::p)::ps | []=>[[b]])=_
  rw[ih r hp]
theorem sA(c:UInt8):∀p:List UInt8,c∉p->pieces c p=[p]:=by
 intro p
 induction p with
 | nil=>intro _;rfl
 | cons b p ih =>
  intro h
  have hb:b≠c:=λe=>h (by simp[e])
  have hp:c∉p:=λe=>h (by simp[e])
  show(if b=c then _ else _)=_
  rw[if_neg hb,ih hp]
def join(c:UInt8):List (List UInt8)->List UInt8
 | []=>[]
 | [p]=>p
 | p::ps=>p++c::join c ps
theorem z_(c:UInt8):∀l,join c (pieces c l)=l:=by
 intro l
 induction l with
 | nil=>rfl
 | cons b l ih =>
  unfold pieces
  split
  ·rename_i e;subst e
   cases hp:pieces b l with
   | nil=>exact absurd hp (kr b l)
   | cons p ps=>rw[hp]at ih;simp[join,ih]
  ·split
   ·rename_i p ps hp;rw[hp]at ih
    cases ps with
    | nil=>simpa[join]using ih
    | cons q qs=>simpa[join]using ih
   ·rename_i hp;exact absurd hp (kr c l)
theorem lg(c:UInt8):∀l,(pieces c l).length=l.count c+1:=by
 intro l
 induction l with
 | nil=>rfl
 | cons b l ih =>
  unfold pieces
  split
  ·rename_i e;subst e;simp[ih]
  ·rename_i e;split
   ·rename_i p ps hp;rw[hp]at ih;rw[List.count_cons_of_ne (by simpa using e)];simpa using ih
   ·rename_i hp;exact absurd hp (kr c l)
def dM(l:List UInt8):Option Nat :=
 match pieces 46 l with
 | [p,q,r,s]=>match bT p,bT q,bT r,bT s with
  | some a,some b,some c,some d=>some (((a*256+b)*256+c)*256+d)
  | _,_,_,_=>none
 | _=>none
def b3(a:Nat):Nat:=a / 16777216
def b2(a:Nat):Nat:=a / 65536 % 256
def b1(a:Nat):Nat:=a / 256 % 256
def b0(a:Nat):Nat:=a % 256
def aX(a:Nat):List UInt8:=decDigits (b3 a)++(46::(decDigits (b2 a)++(46::(decDigits (b1 a)++(46::decDigits (b0 a))))))
theorem qN(n:Nat)(c:UInt8)(h:gV c=false):c∉decDigits n:=λhc=>by
 rw[eH n c hc]at h;cases h
theorem yg(a:Nat):pieces 46 (aX a)=[decDigits (b3 a),decDigits (b2 a),decDigits (b1 a),decDigits (b0 a)]:=by
 unfold aX;rw[aas _ _ _ (qN _ _ zd),aas _ _ _ (qN _ _ zd),aas _ _ _ (qN _ _ zd),sA _ _ (qN _ _ zd)]
theorem Aa{a:Nat}(h:a<4294967296):dM (aX a)=some a:=by
 unfold dM;rw[yg];simp only[];rw[ja (by unfold b3;omega),ja (by unfold b2;omega),ja (by unfold b1;omega),ja (by unfold b0;omega)];simp only[b3,b2,b1,b0,Option.some.injEq];omega
theorem qO{l:List UInt8}{a:Nat}(h:dM l=some a):a<4294967296:=by
 unfold dM at h;split at h
 ·split at h
  ·rename_i h1 h2 h3 h4;have:=dL h1;have:=dL h2;have:=dL h3;have:=dL h4
   cases h;omega
  ·cases h
 ·cases h
theorem Ab{l:List UInt8}{a:Nat}(h:dM l=some a):aX a=l:=by
 unfold dM at h;split at h
 ·rename_i p q r s hp;split at h
  ·rename_i a1 a2 a3 a4 h1 h2 h3 h4;obtain⟨e1,l1⟩:=bL.1 h1;obtain⟨e2,l2⟩:=bL.1 h2;obtain⟨e3,l3⟩:=bL.1 h3;obtain⟨e4,l4⟩:=bL.1 h4
   cases h
   have hj:=z_ 46 l;rw[hp]at hj;rw[← hj]
   have x3:b3 (((a1*256+a2)*256+a3)*256+a4)=a1:=by unfold b3;omega
   have x2:b2 (((a1*256+a2)*256+a3)*256+a4)=a2:=by unfold b2;omega
   have x1:b1 (((a1*256+a2)*256+a3)*256+a4)=a3:=by unfold b1;omega
   have x0:b0 (((a1*256+a2)*256+a3)*256+a4)=a4:=by unfold b0;omega
   unfold aX;rw[x3,x2,x1,x0,e1,e2,e3,e4];simp[join]
  ·cases h
 ·cases h
theorem nu(a:Nat)(h:a<4294967296):(aX a).length<=15:=by
 have h3:=bO 2 (b3 a) (by unfold b3;omega);have h2:=bO 2 (b2 a) (by unfold b2;omega);have h1:=bO 2 (b1 a) (by unfold b1;omega);have h0:=bO 2 (b0 a) (by unfold b0;omega);unfold aX;simp;omega
def aj(a:Nat)(n:Int):Bool:=decide (0<=n/\n<=32)&&a % 2 ^ (32 - n.toNat)==0
theorem df{a:Nat}{n:Int}:aj a n=true↔(0<=n/\n<=32)/\a % 2 ^ (32 - n.toNat)=0:=by
 unfold aj;simp
def bY:List UInt8:=[97,110,121]
def eX(a:Nat)(n:Int):Option (List UInt8) :=
 if aj a n=true then some (if n=0 then bY else aX a++(47::decDigits n.toNat))else none
def de(a:Nat)(n:Int)(x:Nat):Bool:=aj a n&&x / 2 ^ (32 - n.toNat)==a / 2 ^ (32 - n.toNat)
def yh(p r:List UInt8):Option (Nat×Nat) :=
 match dM p,bT r with
 | some a,some n=>if n≠0/\aj a (n:Int)=true then some (a,n)else none
 | _,_=>none
def left(l:List UInt8):List UInt8:=l.takeWhile (· != 47)
def right(l:List UInt8):List UInt8:=(l.dropWhile (· != 47)).drop 1
def fm(l:List UInt8):Option (Nat×Nat):=if l=bY then some (0,0)else yh (left l) (right l)
theorem vN(p r:List UInt8)(h:(47:UInt8)∉p):(p++47::r).takeWhile (· != 47)=p/\(p++47::r).dropWhile (· != 47)=47::r:=by
 induction p with
 | nil=>simp
 | cons b p ih =>
  have hb:b≠47:=λe=>h (by simp[e])
  obtain⟨h1,h2⟩:=ih (λe=>h (by simp[e]))
  simp[hb,h1,h2]
theorem mi(l:List UInt8):(47:UInt8)∉left l/\(l=left l/\right l=[]/\(47:UInt8)∉l\/l=left l++47::right l):=by
 induction l with
 | nil=>simp[left,right]
 | cons b l ih =>
  by_cases hb:b=47
  ·subst hb;simp[left,right]
  ·obtain⟨h1,h2⟩:=ih
   have e1:left (b::l)=b::left l:=by simp[left,hb]
   have e2:right (b::l)=right l:=by simp[right,hb]
   rw[e1,e2];refine⟨by rw[List.mem_cons];rintro(e | e);exact hb e.symm;exact h1 e,?_⟩
   rcases h2 with⟨h3,h4,h5⟩ | h3
   ·exact .inl ⟨by rw[← h3],h4,by rw[List.mem_cons];rintro(e | e);exact hb e.symm;exact h5 e⟩
   ·exact .inr (by rw[List.cons_append,← h3])
theorem FH:bT []=none:=by
 cases h:bT []with
 | none=>rfl
 | some n=>exact absurd (bL.1 h).1.symm (pI n)
theorem wS{p r:List UInt8}{a n:Nat}(h:yh p r=some (a,n)):dM p=some a/\bT r=some n/\n≠0/\aj a (n:Int)=true:=by
 unfold yh at h;split at h
 ·split at h
  ·rename_i h1 h2 h3;cases h;exact⟨h1,h2,h3⟩
  ·cases h
 ·cases h
theorem vO(a:Nat):(47:UInt8)∉aX a:=by
 have h:=λn=>qN n 47 zd;unfold aX;simp[h]
theorem Jk{a:Nat}{n:Int}{t:List UInt8}(ha:a<4294967296)(h:eX a n=some t):fm t=some (a,n.toNat):=by
 unfold eX at h;split at h
 ·rename_i hv;have hv':=df.1 hv
  cases h
  by_cases h0:n=0
  ·subst h0
   have:a=0:=by have:=hv'.2;simp at this;omega
   subst this;simp[fm]
  ·rw[if_neg h0];unfold fm
   rw[if_neg (by
    intro e
    have hm:(47:UInt8)∈bY:=by rw[← e];simp
    simp[bY]at hm)]
   obtain⟨h1,h2⟩:=vN (aX a) (decDigits n.toNat) (vO a);have e1:left (aX a++47::decDigits n.toNat)=aX a:=h1
   have e2:right (aX a++47::decDigits n.toNat)=decDigits n.toNat:=by unfold right;rw[h2];rfl
   rw[e1,e2];unfold yh;rw[Aa ha,ja zo];have hn:((n.toNat:Nat):Int)=n:=zo;simp only[hn];rw[if_pos ⟨by omega,hv⟩]
 ·cases h
theorem Jl{l:List UInt8}{a n:Nat}(h:fm l=some (a,n)):eX a (n:Int)=some l/\a<4294967296/\n<=32:=by
 unfold fm at h;split at h
 ·rename_i e
  cases h;subst e
  exact⟨by decide,by omega,by omega⟩
 ·obtain⟨h1,h2,h3,h4⟩:=wS h;have hv:=df.1 h4;refine⟨?_,qO h1,by omega⟩;unfold eX;rw[if_pos h4,if_neg zo]
  rcases(mi l).2 with⟨_,hr,_⟩ | hl
  ·rw[hr,FH]at h2;cases h2
  ·rw[Ab h1];have:=(bL.1 h2).1;rw[show((n:Int)).toNat=n by simp,← this,← hl]
theorem index_hit(c:UInt8):∀(p r:List UInt8),c∉p->index (p++c::r) [c]=p.length:=by
 intro p
 induction p with
 | nil=>intro r _;rw[index_one];simp[indexByte]
 | cons b p ih =>
  intro r h
  have hb:b≠c:=λe=>h (by simp[e])
  have:=ih r (λe=>h (by simp[e]))
  rw[index_one]at this ⊢
  rw[List.cons_append]
  unfold indexByte
  rw[if_neg (by simpa using hb),this,if_neg zs]
  simp
theorem lj(c:UInt8):∀(p:List UInt8),c∉p->index p [c]=-1:=by
 intro p
 induction p with
 | nil=>intro _;rfl
 | cons b p ih =>
  intro h
  have hb:b≠c:=λe=>h (by simp[e])
  have:=ih (λe=>h (by simp[e]))
  rw[index_one]at this ⊢
  show(if (b==c)=true then _ else _)=_
  rw[if_neg (by simpa using hb),this]
  rfl
theorem yj(c:UInt8):∀(l:List UInt8),c∈l->∃p r,l=p++c::r/\c∉p:=by
 intro l
 induction l with
 | nil=>intro h;cases h
 | cons b l ih =>
  intro h
  by_cases hb:b=c
  ·subst hb;exact⟨[],l,rfl,by simp⟩
  ·obtain⟨p,r,e,hp⟩:=ih (by rcases List.mem_cons.1 h with e | e;exact absurd e.symm hb;exact e);exact⟨b::p,r,by rw[e];rfl,by rw[List.mem_cons];rintro(e | e);exact hb e.symm;exact hp e⟩
theorem vP(c:UInt8):∀(k:Nat) (l:List UInt8),l.count c=k->splitK [c] 0 k l=pieces c l:=by
 intro k
 induction k with
 | zero =>
  intro l h
  rw[sA c l (List.count_eq_zero.1 h)]
  rfl
 | succ k ih =>
  intro l h
  obtain⟨p,r,rfl,hp⟩:=yj c l (List.count_pos_iff.1 zo)
  have hc:r.count c=k:=by
   rw[List.count_append,List.count_eq_zero.2 hp,List.count_cons_self]at h;omega
  rw[aas c p r hp,← ih r hc]
  conv=>lhs;unfold splitK
  rw[index_hit c p r hp,if_neg zs]
  simp
theorem j0(s sep:ByteArray)(c:UInt8)(hsep:sep.data.toList=[c]):(splitB sep 0 (countB s sep) s).map (·.data.toList)=pieces c s.data.toList:=by
 rw[splitB_data,hsep]
 have:countB s sep=s.data.toList.count c:=by
  unfold countB;rw[hsep,count_one]
 rw[this];exact vP c _ _ rfl
theorem oe(s sep:ByteArray)(c:UInt8)(hsep:sep.data.toList=[c]):countB s sep+1=(pieces c s.data.toList).length:=by
 rw[lg];unfold countB;rw[hsep,count_one]
theorem Ae(l:List UInt8):(cut l [47]).1=left l/\(cut l [47]).2.1=right l:=by
 rcases(mi l).2 with⟨h1,h2,h3⟩ | h
 ·unfold cut;rw[lj 47 l h3,if_neg zo];exact⟨h1,h2.symm⟩
 ·have hn:=(mi l).1;have hi:=index_hit 47 (left l) (right l) hn;rw[← h]at hi;unfold cut;rw[hi,if_pos zo];refine⟨?_,?_⟩
  ·show l.take _=_
   conv=>lhs;arg 2;rw[h]
   simp
  ·show l.drop _=_
   conv=>lhs;arg 2;rw[h]
   simp
theorem tN(c:UInt8):∀(l:List UInt8),∀p∈pieces c l,p.length<=l.length:=by
 intro l
 induction l with
 | nil=>intro p hp;simp[pieces]at hp;simp[hp]
 | cons b l ih =>
  intro p hp
  unfold pieces at hp
  split at hp
  ·rcases List.mem_cons.1 hp with rfl | hp
   ·simp
   ·have:=ih p hp;simp;omega
  ·split at hp
   ·rename_i q qs hq
    rcases List.mem_cons.1 hp with rfl | hp
    ·have:=ih q (by rw[hq];simp);simp;omega
    ·have:=ih p (by rw[hq];simp[hp]);simp;omega
   ·rename_i hq;exact absurd hq (kr c l)
def fold:Nat->List (List UInt8)->Option Nat
 | a,[]=>some a
 | a,p::ps=>match bT p with
  | some n=>fold (a*256+n) ps
  | none=>none
theorem FI(p q r s:List UInt8):fold 0 [p,q,r,s]=(match bT p,bT q,bT r,bT s with
  | some a,some b,some c,some d=>some (((a*256+b)*256+c)*256+d)
  | _,_,_,_=>none):=by
 simp only[fold]
 cases bT p <;> cases bT q <;> cases bT r <;> cases bT s <;> simp
theorem Af(l:List UInt8):dM l=if (pieces 46 l).length=4 then fold 0 (pieces 46 l)else none:=by
 unfold dM;generalize pieces 46 l=L
 match L with
 | []=>rfl
 | [_]=>rfl
 | [_,_]=>rfl
 | [_,_,_]=>rfl
 | [p,q,r,s]=>rw[if_pos zs,FI];try rfl
 | _::_::_::_::_::_=>rw[if_neg zs]
theorem FJ{ps:List (List UInt8)}{k a n:Nat}{p:List UInt8}(hk:ps[k]? = some p)(hn:bT p=some n):fold a (ps.drop k)=fold (a*256+n) (ps.drop (k+1)):=by
 obtain⟨hlt,he⟩:=List.getElem?_eq_some_iff.1 hk;rw[List.drop_eq_getElem_cons hlt,he]
 conv=>lhs;unfold fold
 rw[hn]
theorem FK{ps:List (List UInt8)}{k a:Nat}{p:List UInt8}(hk:ps[k]? = some p)(hn:bT p=none):fold a (ps.drop k)=none:=by
 obtain⟨hlt,he⟩:=List.getElem?_eq_some_iff.1 hk;rw[List.drop_eq_getElem_cons hlt,he];unfold fold;rw[hn]
theorem Jm{ps:List (List UInt8)}{k a:Nat}(hk:ps.length<=k):fold a (ps.drop k)=some a:=by
 rw[List.drop_eq_nil_of_le hk];rfl
theorem Qq(a n:Nat)(ha:a<16777216)(hn:n<256):(a*256 % 4294967296) ||| n=a*256+n:=by
 rw[Nat.mod_eq_of_lt zo];have:=Nat.two_pow_add_eq_or_of_lt (i:=8) (b:=n) hn a;rw[show(2:Nat) ^ 8=256 by decide,Nat.mul_comm]at this;exact this.symm
end Go.aV
