import Derived.Test.YtbhnbcadgmagpaaGreatDoorBig
import Derived.Test.YtbhnbcadgmagpaaGreatDoorJ1
import Derived.Test.YtbhnbcadgmagpaaGreatDoorJ2
import Derived.Test.YtbhnbcadgmagpaaGreatDoorRows
import Derived.Test.YtbhnbcadgmagpaaGreatDoorJ3
set_option linter.unusedVariables false
set_option linter.unusedSimpArgs false
namespace Go.cC
open Go.Lib Go.aV
abbrev Line:=Nat×List (List UInt8)
def iP(b:UInt8):Bool:=b==10||(decide (32<=b.toNat)&&decide (b.toNat<=126))
def emit(n:Nat)(ws:List (List UInt8)):List Line:=if ws=[]then[]else[(n,ws)]
def close(ws:List (List UInt8))(cur:List UInt8):List (List UInt8):=if cur=[]then ws else ws++[cur]
def lex:Nat->List (List UInt8)->List UInt8->Bool->List UInt8->List Line
 | n,ws,cur,_,[]=>emit n (close ws cur)
 | n,ws,cur,off,b::l =>
  if b=10 then emit n (close ws cur)++lex (n+1) [] [] false l
  else if b=35 then lex n (close ws cur) [] true l
  else if b=32 then lex n (close ws cur) [] off l
  else if off=true then lex n ws cur off l
  else lex n ws (cur++[b]) off l
def cM(l:List UInt8):Nat:=if 4096<l.length then 2 else if l.all iP=true then 0 else 3
def eM(l:List UInt8):Nat:=if 4096<l.length then 0 else if l.all iP=true then 0 else 1+(l.takeWhile iP).count 10
def aW(l:List UInt8):List Line:=if cM l=0 then lex 1 [] [] false l else[]
theorem tO{l:List UInt8}(h:4096<l.length):cM l=2/\eM l=0/\aW l=[]:=by
 have e:cM l=2:=by unfold cM;rw[if_pos h]
 refine⟨e,by unfold eM;rw[if_pos h],?_⟩;unfold aW;rw[e];rfl
theorem wU{l:List UInt8}(h:l.length<=4096)(hb:l.all iP=false):cM l=3/\eM l=1+(l.takeWhile iP).count 10/\aW l=[]:=by
 have e:cM l=3:=by unfold cM;rw[if_neg zo,hb];rfl
 refine⟨e,by unfold eM;rw[if_neg zo,hb];rfl,?_⟩;unfold aW;rw[e];rfl
theorem tP{l:List UInt8}(h:l.length<=4096)(hb:l.all iP=true):cM l=0/\eM l=0/\aW l=lex 1 [] [] false l:=by
 have e:cM l=0:=by unfold cM;rw[if_neg zo,if_pos hb]
 refine⟨e,by unfold eM;rw[if_neg zo,if_pos hb],?_⟩;unfold aW;rw[if_pos e]
theorem tQ{l:List UInt8}(h:cM l=0):l.length<=4096/\l.all iP=true:=by
 by_cases h1:4096<l.length
 ·rw[(tO h1).1]at h;omega
 ·cases hb:l.all iP with
  | true=>exact⟨by omega,rfl⟩
  | false=>rw[(wU zo hb).1]at h;omega
theorem Jn(l:List UInt8):cM l<=3:=by unfold cM;split <;> (try split) <;> omega
theorem qP{l:List UInt8}(h:l.all iP=false):(l.takeWhile iP).length<l.length:=by
 induction l with
 | nil=>simp at h
 | cons b l ih =>
  rw[List.takeWhile_cons]
  split
  ·rename_i hb;rw[List.all_cons,hb,Bool.true_and]at h;have:=ih h;simp;omega
  ·simp
theorem take_takeWhile(l:List UInt8):l.take (l.takeWhile iP).length=l.takeWhile iP:=by
 have h:l.takeWhile iP++l.dropWhile iP=l:=List.takeWhile_append_dropWhile;refine(congrArg (List.take (l.takeWhile iP).length) h.symm).trans ?_;exact List.take_left
def dX(p:List UInt8):List (List UInt8):=fields (cut p [35]).1
def dA:Nat->List (List UInt8)->List Line
 | _,[]=>[]
 | n,p::ps=>emit n (dX p)++dA (n+1) ps
theorem Ag(p:List UInt8):∀(ps:List (List UInt8)) (n:Nat),dA n (ps++[p])=dA n ps++emit (n+ps.length) (dX p):=by
 intro ps
 induction ps with
 | nil=>intro n;simp[dA]
 | cons q ps ih =>
  intro n
  show emit n (dX q)++dA (n+1) (ps++[p])=_
  rw[ih,← List.append_assoc,show n+1+ps.length=n+(q::ps).length by simp;omega]
  rfl
theorem Ai{ps:List (List UInt8)}{k:Nat}{p:List UInt8}(h:ps[k]? = some p)(n:Nat):dA n (ps.take (k+1))=dA n (ps.take k)++emit (n+k) (dX p):=by
 obtain⟨hlt,he⟩:=(List.getElem?_eq_some_iff.1 h);rw[List.take_succ_eq_append_getElem hlt,he,Ag,List.length_take,Nat.min_eq_left zo]
theorem CM:∀(ps:List (List UInt8)) (n:Nat),(dA n ps).length<=ps.length:=by
 intro ps
 induction ps with
 | nil=>intro n;exact Nat.le_refl _
 | cons p ps ih =>
  intro n
  have:=ih (n+1)
  show(emit n (dX p)++dA (n+1) ps).length<=_
  unfold emit
  split <;> simp <;> omega
theorem pJ:∀(l cur:List UInt8),(fieldsGo cur l).length<=l.length+1:=by
 intro l
 induction l with
 | nil=>intro cur;unfold fieldsGo;split <;> simp
 | cons b l ih =>
  intro cur
  unfold fieldsGo
  split
  ·split
   ·have:=ih [];simp;omega
   ·have:=ih [];simp;omega
  ·have:=ih (cur++[b]);simp;omega
def ahead:List UInt8->List UInt8
 | []=>[]
 | b::l=>if b=35 then[]else b::ahead l
theorem ku(l:List UInt8):(cut l [35]).1=ahead l:=by
 by_cases h:(35:UInt8)∈l
 ·obtain⟨p,r,e,hp⟩:=yj 35 l h;have hi:=index_hit 35 p r hp;unfold cut;rw[e,hi,if_pos zo];show(p++35::r).take _=_
  have:∀p:List UInt8,(35:UInt8)∉p->ahead (p++35::r)=p:=by
   intro p
   induction p with
   | nil=>intro _;simp[ahead]
   | cons b p ih =>
    intro hp
    have hb:b≠35:=λe=>hp (by simp[e])
    show(if b=35 then _ else _)=_
    rw[if_neg hb]
    exact congrArg _ (ih λe=>hp (by simp[e]))
  rw[this p hp];simp
 ·have hi:=lj 35 l h;unfold cut;rw[hi,if_neg zo];show l=_
  induction l with
  | nil=>rfl
  | cons b l ih =>
   have hb:b≠35:=λe=>h (by simp[e])
   show _=(if b=35 then _ else _)
   rw[if_neg hb]
   exact congrArg _ (ih (λe=>h (by simp[e])) (lj 35 l (λe=>h (by simp[e]))))
theorem FL(l:List UInt8):∀b∈ahead l,b∈l:=by
 induction l with
 | nil=>intro b h;cases h
 | cons c l ih =>
  intro b h
  unfold ahead at h
  split at h
  ·cases h
  ·rcases List.mem_cons.1 h with rfl | h
   ·simp
   ·simp[ih b h]
theorem wW(l:List UInt8):(ahead l).length<=l.length:=by
 induction l with
 | nil=>exact Nat.le_refl _
 | cons c l ih=>unfold ahead;split <;> simp <;> omega
theorem CN(p:List UInt8):(dX p).length<=p.length+1:=by
 unfold dX;rw[ku];have:=pJ (ahead p) [];have:=wW p;unfold fields;omega
theorem Jo{b:UInt8}(h:iP b=true)(h10:b≠10):isSp b=decide (b=32):=by
 have:=b.toNat_lt;unfold iP at h
 have hb:∀n,n<256->(UInt8.ofNat n=10\/(32<=n/\n<=126))->UInt8.ofNat n≠10->isSp (UInt8.ofNat n)=decide (UInt8.ofNat n=32):=by
  decide +kernel
 have h2:=hb b.toNat this;rw[UInt8.ofNat_toNat]at h2;refine h2 ?_ h10
 rcases Bool.or_eq_true _ _▸h with h | h
 ·exact .inl (by simpa using h)
 ·rw[Bool.and_eq_true,decide_eq_true_iff,decide_eq_true_iff]at h;exact .inr h
def di(ws:List (List UInt8))(cur:List UInt8)(off:Bool)(p:List UInt8):List (List UInt8):=if off=true then ws else ws++fieldsGo cur (ahead p)
theorem tR(ws:List (List UInt8))(cur:List UInt8):ws++fieldsGo cur []=close ws cur:=by
 unfold close fieldsGo
 cases cur <;> simp
theorem CO:∀(l:List UInt8) (n:Nat) (ws:List (List UInt8)) (cur:List UInt8) (off:Bool),l.all iP=true->(off=true->cur=[]) →
  ∃p ps,pieces 10 l=p::ps/\lex n ws cur off l=emit n (di ws cur off p)++dA (n+1) ps:=by
 intro l
 induction l with
 | nil =>
  intro n ws cur off _ ho
  refine⟨[],[],rfl,?_⟩
  show emit n (close ws cur)=emit n (di ws cur off [])++[]
  rw[List.append_nil]
  unfold di
  split
  ·rename_i h;rw[ho h];rfl
  ·show _=emit n (ws++fieldsGo cur []);rw[tR]
 | cons b l ih =>
  intro n ws cur off hv ho
  rw[List.all_cons,Bool.and_eq_true]at hv
  obtain⟨hb,hv⟩:=hv
  by_cases h10:b=10
  ·subst h10;obtain⟨p,ps,hp,hl⟩:=ih (n+1) [] [] false hv (λh=>by cases h);refine⟨[],p::ps,by simp[pieces,hp],?_⟩;show(if (10:UInt8)=10 then emit n (close ws cur)++lex (n+1) [] [] false l else _)=_;rw[if_pos rfl,hl]
   have e1:di ws cur off []=close ws cur:=by
    unfold di;split
    ·rename_i h;rw[ho h];rfl
    ·exact tR ws cur
   have e2:di [] [] false p=dX p:=by unfold di dX;rw[ku];rfl
   rw[e1,e2];rfl
  ·have hpc:∀p ps,pieces 10 l=p::ps->pieces 10 (b::l)=(b::p)::ps:=by
    intro p ps h;show(if b=10 then _ else _)=_;rw[if_neg h10,h]
   have hsp:=Jo hb h10;by_cases yl:b=35
   ·subst yl;obtain⟨p,ps,hp,hl⟩:=ih n (close ws cur) [] true hv zg;refine⟨35::p,ps,hpc p ps hp,?_⟩
    have e:lex n ws cur off (35::l)=lex n (close ws cur) [] true l:=by
     show(if (35:UInt8)=10 then _ else if (35:UInt8)=35 then _ else _)=_;rw[if_neg zd,if_pos rfl]
    rw[e,hl]
    have e1:di ws cur off (35::p)=close ws cur:=by
     unfold di;split
     ·rename_i h;rw[ho h];rfl
     ·have:ahead (35::p)=[]:=by simp[ahead]
      rw[this];exact tR ws cur
    rw[e1];rfl
   ·by_cases h32:b=32
    ·subst h32;obtain⟨p,ps,hp,hl⟩:=ih n (close ws cur) [] off hv zg;refine⟨32::p,ps,hpc p ps hp,?_⟩
     have e:lex n ws cur off (32::l)=lex n (close ws cur) [] off l:=by
      show(if (32:UInt8)=10 then _ else if (32:UInt8)=35 then _ else if (32:UInt8)=32 then _ else _)=_;rw[if_neg zd,if_neg zd,if_pos rfl]
     rw[e,hl]
     have e1:di ws cur off (32::p)=di (close ws cur) [] off p:=by
      unfold di
      cases off with
      | true=>rw[if_pos rfl,if_pos rfl,ho rfl];rfl
      | false =>
       rw[if_neg zs,if_neg zs]
       have:ahead (32::p)=32::ahead p:=by simp[ahead]
       rw[this]
       unfold close
       cases cur with
       | nil=>rw[fieldsGo_sp _ _ hsp];simp
       | cons c cur=>rw[fieldsGo_end _ _ _ hsp zs];simp
     rw[e1]
    ·have hs0:isSp b=false:=by rw[hsp];simpa using h32
     cases off with
     | true =>
      obtain⟨p,ps,hp,hl⟩:=ih n ws cur true hv ho
      refine⟨b::p,ps,hpc p ps hp,?_⟩
      have e:lex n ws cur true (b::l)=lex n ws cur true l:=by
       show(if b=10 then _ else if b=35 then _ else if b=32 then _ else if true=true then _ else _)=_;rw[if_neg h10,if_neg yl,if_neg h32,if_pos rfl]
      rw[e,hl]
      rfl
     | false =>
      obtain⟨p,ps,hp,hl⟩:=ih n ws (cur++[b]) false hv (λh=>by cases h)
      refine⟨b::p,ps,hpc p ps hp,?_⟩
      have e:lex n ws cur false (b::l)=lex n ws (cur++[b]) false l:=by
       show(if b=10 then _ else if b=35 then _ else if b=32 then _ else if false=true then _ else _)=_;rw[if_neg h10,if_neg yl,if_neg h32,if_neg zs]
      rw[e,hl]
      have e1:di ws cur false (b::p)=di ws (cur++[b]) false p:=by
       unfold di;rw[if_neg zs,if_neg zs]
       have:ahead (b::p)=b::ahead p:=by simp[ahead,yl]
       rw[this,fieldsGo_more _ _ _ hs0]
      rw[e1]
theorem Qr(l:List UInt8)(h:l.all iP=true):lex 1 [] [] false l=dA 1 (pieces 10 l):=by
 obtain⟨p,ps,hp,hl⟩:=CO l 1 [] [] false h (λh=>by cases h);rw[hl,hp];show _=emit 1 (dX p)++dA (1+1) ps
 have e2:di [] [] false p=dX p:=by unfold di dX;rw[ku];rfl
 rw[e2]
theorem ym(n:Nat)(ws:List (List UInt8))(cur:List UInt8)(off:Bool)(l:List UInt8):lex n ws cur off (10::l)=emit n (close ws cur)++lex (n+1) [] [] false l:=by
 show(if (10:UInt8)=10 then _ else _)=_;rw[if_pos rfl]
theorem Aj(n:Nat)(ws:List (List UInt8))(cur:List UInt8)(off:Bool)(l:List UInt8):lex n ws cur off (35::l)=lex n (close ws cur) [] true l:=by
 show(if (35:UInt8)=10 then _ else if (35:UInt8)=35 then _ else _)=_;rw[if_neg zd,if_pos rfl]
theorem CP(n:Nat)(ws:List (List UInt8))(cur:List UInt8)(off:Bool)(l:List UInt8):lex n ws cur off (32::l)=lex n (close ws cur) [] off l:=by
 show(if (32:UInt8)=10 then _ else if (32:UInt8)=35 then _ else if (32:UInt8)=32 then _ else _)=_;rw[if_neg zd,if_neg zd,if_pos rfl]
theorem Ev(n:Nat)(ws:List (List UInt8))(cur:List UInt8)(b:UInt8)(l:List UInt8)(h10:b≠10)(yl:b≠35)(h32:b≠32):lex n ws cur true (b::l)=lex n ws cur true l:=by
 show(if b=10 then _ else if b=35 then _ else if b=32 then _ else if true=true then _ else _)=_;rw[if_neg h10,if_neg yl,if_neg h32,if_pos rfl]
theorem CQ(n:Nat)(ws:List (List UInt8))(cur:List UInt8)(b:UInt8)(l:List UInt8)(h10:b≠10)(yl:b≠35)(h32:b≠32):lex n ws cur false (b::l)=lex n ws (cur++[b]) false l:=by
 show(if b=10 then _ else if b=35 then _ else if b=32 then _ else if false=true then _ else _)=_;rw[if_neg h10,if_neg yl,if_neg h32,if_neg zs]
def Clean(w:List UInt8):Prop:=w≠[]/\∀b∈w,33<=b.toNat/\b.toNat<=126/\b≠35
def Good:Nat->List Line->Prop
 | _,[]=>True
 | m,(n,ws)::ls=>m<=n/\ws≠[]/\(∀w∈ws,Clean w)/\Good (n+1) ls
theorem Good.mono:∀{ls:List Line} {m m':Nat},Good m ls->m'<=m->Good m' ls
 | [],_,_,_,_=>trivial
 | (n,ws)::ls,_,_,h,hm=>⟨Nat.le_trans hm h.1,h.2⟩
theorem wX{n m:Nat}{ws:List (List UInt8)}{ls:List Line}(h:∀w∈ws,Clean w)(hm:m<=n)(hl:Good (n+1) ls):Good m (emit n ws++ls):=by
 unfold emit;split
 ·exact hl.mono zo
 ·rename_i hne;exact⟨hm,hne,h,hl⟩
theorem jN{ws:List (List UInt8)}{cur:List UInt8}(h:∀w∈ws,Clean w)(hc:cur=[]\/Clean cur):∀w∈close ws cur,Clean w:=by
 unfold close;split
 ·exact h
 ·rename_i hne;intro w hw
  rcases List.mem_append.1 hw with hw | hw
  ·exact h w hw
  ·rw[List.mem_singleton.1 hw];exact hc.resolve_left hne
theorem CR{cur:List UInt8}{b:UInt8}(hc:cur=[]\/Clean cur)(hb:iP b=true)(h10:b≠10)(yl:b≠35)(h32:b≠32):Clean (cur++[b]):=by
 refine⟨by simp,λc h=>?_⟩
 rcases List.mem_append.1 h with h | h
 ·rcases hc with rfl | hc
  ·cases h
  ·exact hc.2 c h
 ·rw[List.mem_singleton.1 h];unfold iP at hb
  rcases Bool.or_eq_true _ _▸hb with hb | hb
  ·exact absurd (by simpa using hb) h10
  ·rw[Bool.and_eq_true,decide_eq_true_iff,decide_eq_true_iff]at hb;have:b.toNat≠32:=λe=>h32 (UInt8.toNat_inj.1 e);exact⟨by omega,hb.2,yl⟩
theorem Jp:∀(l:List UInt8) (n:Nat) (ws:List (List UInt8)) (cur:List UInt8) (off:Bool),l.all iP=true->(∀w∈ws,Clean w)->(cur=[]\/Clean cur)->Good n (lex n ws cur off l):=by
 intro l
 induction l with
 | nil =>
  intro n ws cur off _ hw hc
  show Good n (emit n (close ws cur))
  have:=wX (n:=n) (m:=n) (ls:=[]) (jN hw hc) zl trivial
  rwa [List.append_nil]at this
 | cons b l ih =>
  intro n ws cur off hv hw hc
  rw[List.all_cons,Bool.and_eq_true]at hv
  obtain⟨hb,hv⟩:=hv
  by_cases h10:b=10
  ·subst h10;rw[ym];exact wX (jN hw hc) zl (ih _ _ _ _ hv (λw h=>by cases h) (.inl rfl))
  ·by_cases yl:b=35
   ·subst yl;rw[Aj];exact ih _ _ _ _ hv (jN hw hc) (.inl rfl)
   ·by_cases h32:b=32
    ·subst h32;rw[CP];exact ih _ _ _ _ hv (jN hw hc) (.inl rfl)
    ·cases off with
     | true=>rw[Ev _ _ _ _ _ h10 yl h32];exact ih _ _ _ _ hv hw hc
     | false=>rw[CQ _ _ _ _ _ h10 yl h32];exact ih _ _ _ _ hv hw (.inr (CR hc hb h10 yl h32))
def fI:Nat->List Line->List UInt8
 | _,[]=>[]
 | m,(n,ws)::ls=>List.replicate (n - m) 10++(join 32 ws++fI n ls)
theorem Ak(n:Nat)(W:List (List UInt8)):∀(w:List UInt8) (C t:List UInt8),(∀b∈w,33<=b.toNat/\b.toNat<=126/\b≠35)->lex n W C false (w++t)=lex n W (C++w) false t:=by
 intro w
 induction w with
 | nil=>intro C t _;simp
 | cons b w ih =>
  intro C t h
  obtain⟨h1,h2,h3⟩:=h b zs
  have h10:b≠10:=λe=>by subst e;exact absurd h1 zd
  have h32:b≠32:=λe=>by subst e;exact absurd h1 zd
  rw[List.cons_append,CQ _ _ _ _ _ h10 h3 h32,ih _ _ (λc hc=>h c (by simp[hc]))]
  simp
theorem FM(n:Nat):∀(ws:List (List UInt8)) (W:List (List UInt8)),ws≠[]->(∀w∈ws,Clean w)->∃W' C,close W' C=W++ws/\∀t,lex n W [] false (join 32 ws++t)=lex n W' C false t:=by
 intro ws
 induction ws with
 | nil=>intro W h;exact absurd rfl h
 | cons w ws ih =>
  intro W _ h
  have hw:=h w zs
  cases ws with
  | nil =>
   refine⟨W,w,by unfold close;rw[if_neg hw.1],λt=>?_⟩
   show lex n W [] false (w++t)=_
   rw[Ak _ _ _ _ _ hw.2];rfl
  | cons v ws =>
   obtain⟨W',C,e,ht⟩:=ih (W++[w]) zs (λx hx=>h x (by simp[hx]))
   refine⟨W',C,by rw[e];simp,λt=>?_⟩
   show lex n W [] false ((w++32::join 32 (v::ws))++t)=_
   rw[List.append_assoc,Ak _ _ _ _ _ hw.2,List.cons_append,CP,List.nil_append]
   have:close W w=W++[w]:=by unfold close;rw[if_neg hw.1]
   rw[this]
   exact ht t
theorem FN:∀(k n:Nat) (t:List UInt8),lex n [] [] false (List.replicate k 10++t)=lex (n+k) [] [] false t:=by
 intro k
 induction k with
 | zero=>intro n t;simp
 | succ k ih =>
  intro n t
  rw[List.replicate_succ,List.cons_append,ym,ih,show n+1+k=n+(k+1) by omega]
  rfl
theorem Jq:∀(ls:List Line) (m:Nat),Good m ls->lex m [] [] false (fI m ls)=ls/\(∀(n:Nat) (W:List (List UInt8)) (C:List UInt8),n+1=m->lex n W C false (fI n ls)=emit n (close W C)++ls):=by
 intro ls
 induction ls with
 | nil=>intro m _;exact⟨rfl,λn W C _=>by show emit n (close W C)=_;simp⟩
 | cons x ls ih =>
  intro m h
  obtain⟨k,ws⟩:=x
  obtain⟨h1,h2,h3,h4⟩:=h
  have main:lex m [] [] false (fI m ((k,ws)::ls))=(k,ws)::ls:=by
   show lex m [] [] false (List.replicate (k - m) 10++(join 32 ws++fI k ls))=_;rw[FN,show m+(k - m)=k by omega];obtain⟨W',C,e,ht⟩:=FM k ws [] h2 h3;rw[ht,(ih (k+1) h4).2 k W' C rfl,e];unfold emit;rw[if_neg (by simpa using h2)];rfl
  refine⟨main,λn W C hn=>?_⟩
  subst hn
  have e:fI n ((k,ws)::ls)=10::fI (n+1) ((k,ws)::ls):=by
   show List.replicate (k - n) 10++_=10::(List.replicate (k - (n+1)) 10++_);rw[show k - n=(k - (n+1))+1 by omega,List.replicate_succ];rfl
  rw[e,ym,main]
theorem Jr:∀(ls:List Line) (m:Nat),Good m ls->(fI m ls).all iP=true:=by
 have hj:∀ws:List (List UInt8),(∀w∈ws,Clean w)->(join 32 ws).all iP=true:=by
  intro ws
  induction ws with
  | nil=>intro _;rfl
  | cons w ws ih =>
   intro h
   have hw:w.all iP=true:=by
    rw[List.all_eq_true];intro b hb;have:=(h w zs).2 b hb;unfold iP;rw[Bool.or_eq_true,Bool.and_eq_true,decide_eq_true_iff,decide_eq_true_iff];exact .inr ⟨by omega,by omega⟩
   cases ws with
   | nil=>exact hw
   | cons v ws =>
    show(w++32::join 32 (v::ws)).all iP=true
    rw[List.all_append,List.all_cons,hw,ih (λx hx=>h x (by simp[hx]))]
    decide
 intro ls
 induction ls with
 | nil=>intro m _;rfl
 | cons x ls ih =>
  intro m h
  obtain⟨k,ws⟩:=x
  obtain⟨h1,h2,h3,h4⟩:=h
  show(List.replicate (k - m) 10++(join 32 ws++fI k ls)).all iP=true
  rw[List.all_append,List.all_append,hj ws h3,ih k (h4.mono zo)]
  rw[Bool.and_true,Bool.and_true,List.all_eq_true]
  intro b hb
  rw[List.eq_of_mem_replicate hb];decide
def lm(ws:List (List UInt8)):Nat:=(ws.map λw=>w.length+1).sum
theorem FO(ws:List (List UInt8))(w:List UInt8):lm (ws++[w])=lm ws+(w.length+1):=by
 unfold lm;simp
theorem Am:∀ws:List (List UInt8),(join 32 ws).length<=lm ws - 1:=by
 intro ws
 induction ws with
 | nil=>simp[aV.join]
 | cons w ws ih =>
  cases ws with
  | nil=>simp[aV.join,lm]
  | cons v ws =>
   show(w++32::join 32 (v::ws)).length<=_
   have e:lm (w::v::ws)=w.length+1+lm (v::ws):=by simp[lm]
   have:1<=lm (v::ws):=by simp[lm];omega
   rw[e];simp;omega
theorem tS(ws:List (List UInt8))(cur:List UInt8):lm (close ws cur)<=lm ws+cur.length+1/\lm (close ws cur) - 1<=lm ws+cur.length:=by
 unfold close;split
 ·omega
 ·rw[FO];omega
theorem Nn:∀(l:List UInt8) (n:Nat) (ws:List (List UInt8)) (cur:List UInt8) (off:Bool) (m:Nat),m<=n->(fI m (lex n ws cur off l)).length<=(n - m)+lm ws+cur.length+l.length:=by
 intro l
 induction l with
 | nil =>
  intro n ws cur off m hm
  show(fI m (emit n (close ws cur))).length<=_
  unfold emit
  split
  ·simp[fI]
  ·have h1:=Am (close ws cur);have h2:=(tS ws cur).2;show(List.replicate (n - m) 10++(join 32 (close ws cur)++[])).length<=_;simp;omega
 | cons b l ih =>
  intro n ws cur off m hm
  have hc:=tS ws cur
  by_cases h10:b=10
  ·subst h10;rw[ym];unfold emit;split
   ·have:=ih (n+1) [] [] false m zo;simp[lm]at this ⊢;omega
   ·have:=ih (n+1) [] [] false n zo;have h1:=Am (close ws cur);show(List.replicate (n - m) 10++(join 32 (close ws cur)++fI n (lex (n+1) [] [] false l))).length<=_;simp[lm]at this ⊢;have:=hc.2;simp[lm]at h1 this;omega
  ·by_cases yl:b=35
   ·subst yl;rw[Aj];have:=ih n (close ws cur) [] true m hm;simp at this ⊢;omega
   ·by_cases h32:b=32
    ·subst h32;rw[CP];have:=ih n (close ws cur) [] off m hm;simp at this ⊢;omega
    ·cases off with
     | true=>rw[Ev _ _ _ _ _ h10 yl h32];have:=ih n ws cur true m hm;simp at this ⊢;omega
     | false=>rw[CQ _ _ _ _ _ h10 yl h32];have:=ih n ws (cur++[b]) false m hm;simp at this ⊢;omega
theorem again{l:List UInt8}(h:cM l=0):Good 1 (aW l)/\(fI 1 (aW l)).length<=l.length/\cM (fI 1 (aW l))=0/\aW (fI 1 (aW l))=aW l:=by
 obtain⟨h1,h2⟩:=tQ h;have e:=(tP h1 h2).2.2
 have hg:Good 1 (aW l):=by rw[e];exact Jp l 1 [] [] false h2 (λw h=>by cases h) (.inl rfl)
 have hl:(fI 1 (aW l)).length<=l.length:=by
  rw[e];have:=Nn l 1 [] [] false 1 zl;simpa[lm]using this
 have hk:=tP (l:=fI 1 (aW l)) zo (Jr _ _ hg);exact⟨hg,hl,hk.1,by rw[hk.2.2];exact(Jq _ _ hg).1⟩
def top:Nat:=4611686018427387904
def sV(l:List UInt8):Bool:=l.all gV&&decide (decDigits (fh 0 l)=l)&&decide (fh 0 l<=top)
def mj(l:List UInt8):Nat:=if sV l=true then fh 0 l else 0
theorem pM(l:List UInt8):sV l=true↔l.all gV=true/\decDigits (fh 0 l)=l/\fh 0 l<=top:=by
 unfold sV;simp[Bool.and_eq_true,and_assoc]
theorem Ew{l:List UInt8}(h:sV l=false):mj l=0:=by unfold mj;rw[h];rfl
theorem pN{l:List UInt8}(h:sV l=true):mj l=fh 0 l:=by unfold mj;rw[if_pos h]
theorem yn{l:List UInt8}(h : ¬(l.all gV=true/\decDigits (fh 0 l)=l/\fh 0 l<=top)):sV l=false:=by
 cases e:sV l with
 | false=>rfl
 | true=>exact absurd ((pM l).1 e) h
theorem Np:∀(r:List UInt8) (a:Nat),a<=fh a r:=by
 intro r
 induction r with
 | nil=>intro a;exact Nat.le_refl _
 | cons c r ih=>intro a;exact Nat.le_trans zo (ih (10*a+(c.toNat - 48)))
theorem FP(l:List UInt8)(k:Nat):fh 0 (l.take k)<=fh 0 l:=by
 conv=>rhs;rw[← List.take_append_drop k l]
 rw[mh];exact Np _ _
theorem wY(l:List UInt8)(c:UInt8):fh 0 (l++[c])=10*fh 0 l+(c.toNat - 48):=by rw[mh];rfl
theorem Nq{l:List UInt8}{k:Nat}{c:UInt8}(h:l[k]? = some c):fh 0 (l.take (k+1))=10*fh 0 (l.take k)+(c.toNat - 48):=by
 obtain⟨hlt,he⟩:=(List.getElem?_eq_some_iff.1 h);rw[List.take_succ_eq_append_getElem hlt,he,wY]
theorem Qs{l:List UInt8}{k:Nat}{c:UInt8}(h:l[k]? = some c)(ha:(l.take k).all gV=true)(hc:48<=c.toNat/\c.toNat<=57):(l.take (k+1)).all gV=true:=by
 obtain⟨hlt,he⟩:=(List.getElem?_eq_some_iff.1 h);rw[List.take_succ_eq_append_getElem hlt,he,List.all_append,ha];simp[gV,hc.1,hc.2]
theorem Ao{l:List UInt8}{k:Nat}{c:UInt8}(h:l[k]? = some c)(hc : ¬(48<=c.toNat/\c.toNat<=57)):sV l=false:=by
 refine yn λ⟨h1,_⟩=>hc ?_;have:=(List.all_eq_true.1 h1) c (List.mem_of_getElem? h);unfold gV at this
 rwa [Bool.and_eq_true,decide_eq_true_iff,decide_eq_true_iff]at this
theorem Nr{l:List UInt8}{k:Nat}(h:top<fh 0 (l.take k)):sV l=false:=by
 refine yn λ⟨_,_,h1⟩=>?_;have:=FP l k;omega
theorem Js:∀n,1<=n->∃c r,decDigits n=c::r/\c≠48:=by
 intro n
 induction n using Nat.strongRecOn with
 | ind n ih =>
  intro h1
  by_cases h:n<10
  ·refine⟨_,[],by rw[decDigits,dif_pos h],λe=>?_⟩;have:=congrArg UInt8.toNat e;rw[iZ n h]at this;have h48:(48:UInt8).toNat=48:=rfl;omega
  ·obtain⟨c,r,e,hc⟩:=ih (n / 10) zo zo;exact⟨c,r++[UInt8.ofNat (48+n % 10)],by rw[decDigits,dif_neg h,e];rfl,hc⟩
theorem Ns{l:List UInt8}(h:1<l.length)(h0:l[0]? = some 48):sV l=false:=by
 refine yn λ⟨_,h2,_⟩=>?_
 rcases Nat.eq_zero_or_pos (fh 0 l)with e | e
 ·rw[e,show decDigits 0=[48] by rw[decDigits,dif_pos zo];rfl]at h2;rw[← h2]at h;simp at h
 ·obtain⟨c,r,e2,hc⟩:=Js _ e;rw[e2]at h2;rw[← h2]at h0;simp at h0;exact hc h0
theorem Nt:sV []=false:=yn λ⟨_,h2,_⟩=>pI _ h2
theorem SJ:∀(m:Nat) (l:List UInt8),l.length=m+1->l.all gV=true->(1<l.length->l[0]? ≠ some 48)->decDigits (fh 0 l)=l:=by
 intro m
 induction m with
 | zero =>
  intro l hl hd _
  obtain⟨c,rfl⟩:=List.length_eq_one_iff.1 hl
  have hc:=(List.all_eq_true.1 hd) c zs
  unfold gV at hc
  rw[Bool.and_eq_true,decide_eq_true_iff,decide_eq_true_iff]at hc
  show decDigits (10*0+(c.toNat - 48))=[c]
  rw[decDigits,dif_pos zo]
  congr 1
  apply UInt8.toNat_inj.1
  rw[iZ _ zo];omega
 | succ m ih =>
  intro l hl hd h0
  have hne:l≠[]:=λe=>by subst e;simp at hl
  obtain⟨p,c,rfl⟩:∃p c,l=p++[c]:=⟨l.dropLast,l.getLast hne,(List.dropLast_concat_getLast hne).symm⟩
  have hp:p.length=m+1:=by simpa using hl
  rw[List.all_append,Bool.and_eq_true]at hd
  have hc:=(List.all_eq_true.1 hd.2) c zs
  unfold gV at hc
  rw[Bool.and_eq_true,decide_eq_true_iff,decide_eq_true_iff]at hc
  have mo:p[0]? ≠ some 48:=λe=>h0 zt (by rw[List.getElem?_append_left zo];exact e)
  have hi:=ih p hp hd.1 (λ_=>mo)
  have hpos:1<=fh 0 p:=by
   rcases Nat.eq_zero_or_pos (fh 0 p)with e | e
   ·rw[e,show decDigits 0=[48] by rw[decDigits,dif_pos zo];rfl]at hi;rw[← hi]at mo;simp at mo
   ·exact e
  rw[wY,decDigits,dif_neg zo,show(10*fh 0 p+(c.toNat - 48)) / 10=fh 0 p by omega,hi,show(10*fh 0 p+(c.toNat - 48)) % 10=c.toNat - 48 by omega]
  congr 2
  apply UInt8.toNat_inj.1
  rw[iZ _ zo];omega
theorem CS{l:List UInt8}(h1:1<=l.length)(hd:l.all gV=true)(h0:1<l.length->l[0]? ≠ some 48)(ht:fh 0 l<=top):sV l=true :=
 (pM l).2 ⟨hd,SJ (l.length - 1) l zo hd h0,ht⟩
end Go.cC
namespace Go.Proofs.YtbhnbcadgmagpaaGreatDoor
open Go.ChangeShapes Go.WideShapes Go.ChangeAt Go.RowKit Go.aN Go.Lib
namespace Tx
open cC (Line)
def u_(l:List UInt8):Value:=.string ⟨l.toArray⟩
def Row(w:World)(T:TypeId)(B:Nat)(v:Value)(n:Nat)(xs:List Value):Prop :=
 (v = .slice none 0 0/\n=0/\xs=[]) ∨
 ∃g cap cur,v = .slice (some ⟨g,0,none⟩) n cap/\g<B/\w.heap[g]? = some (.cells cur T (0,0))/\cur.toList.take xs.length=xs/\n<=cap/\cap<=maxLen
theorem Row.keep{w w':World}{T B n:Nat}{v:Value}{xs:List Value}(h:Row w T B v n xs)(hk:∀g cur,g<B->w.heap[g]? = some (.cells cur T (0,0))->w'.heap[g]? = w.heap[g]?):Row w' T B v n xs:=by
 rcases h with h | ⟨g,cap,cur,h1,h2,h3,h4⟩
 ·exact .inl h
 ·exact .inr ⟨g,cap,cur,h1,h2,(hk g cur h2 h3).trans h3,h4⟩
theorem Row.mono{w:World}{T B B' n:Nat}{v:Value}{xs:List Value}(h:Row w T B v n xs)(hB:B<=B'):Row w T B' v n xs:=by
 rcases h with h | ⟨g,cap,cur,h1,h2,h3⟩
 ·exact .inl h
 ·exact .inr ⟨g,cap,cur,h1,by omega,h3⟩
theorem Row.lt{w:World}{T B n:Nat}{v:Value}{xs:List Value}(h:Row w T B v n xs)(hB:B<=w.heap.size):Row w T w.heap.size v n xs:=h.mono hB
theorem Row.oH{w:World}{base T size n:Nat}{v:Value}{xs:List Value}(h:w.ownsRow base T size v n xs):Row w T w.heap.size v n xs:=by
 rcases h.2 with⟨h1,h2⟩ | ⟨g,cap,cur,h1,h2,h3,h4,h5,h6,h7⟩
 ·refine .inl ⟨h1,h2,?_⟩;have:=h.1;subst h2;exact List.eq_nil_of_length_eq_zero zo
 ·exact .inr ⟨g,cap,cur,h1,(Array.getElem?_eq_some_iff.1 h3).1,h3,by rw[h.1];exact h7,h4,h5⟩
theorem Row.at_{w:World}{T B n:Nat}{v:Value}{xs:List Value}(h:Row w T B v n xs)(hn:0<n):∃g cap,v = .slice (some ⟨g,0,none⟩) n cap/\g<B/\n<=cap/\cap<=maxLen/\∀j u,xs[j]? = some u->w.cell? ⟨g,j,none⟩=some u:=by
 rcases h with⟨_,h,_⟩ | ⟨g,cap,cur,h1,h2,h3,h4,h5,h6⟩
 ·omega
 ·refine⟨g,cap,h1,h2,h5,h6,λj u hu=>?_⟩;rw[cell_of_row w g j cur T (0,0) h3];rw[← h4,List.getElem?_take]at hu;split at hu
  ·simpa using hu
  ·cases hu
theorem Row.len{w:World}{T B n:Nat}{v:Value}{xs:List Value}(h:Row w T B v n xs):∃A c,v = .slice A n c:=by
 rcases h with⟨h1,h2,_⟩ | ⟨g,cap,cur,h1,_⟩
 ·exact⟨none,0,by rw[h1,h2]⟩
 ·exact⟨_,_,h1⟩
theorem Row.below{w w':World}{T B n:Nat}{v:Value}{xs:List Value}{C:Nat}(h:Row w T B v n xs)(hb:Below C w w')(hB:B<=C):Row w' T B v n xs :=
 h.keep λg _ hg _=>hb.block g zo
def py(w:World)(B:Nat):List Value->List Line->Prop
 | [],[]=>True
 | a::b::xs,(n,ws)::ls=>a = .int .i64 (n:Int)/\Row w 9 B b ws.length (ws.map u_)/\py w B xs ls
 | _,_=>False
theorem py.keep{w w':World}{B:Nat}(hk:∀g cur,g<B->w.heap[g]? = some (.cells cur 9 (0,0))->w'.heap[g]? = w.heap[g]?):∀{xs:List Value} {ls:List Line},py w B xs ls->py w' B xs ls
 | [],[],_=>trivial
 | a::b::xs,(n,ws)::ls,h=>⟨h.1,h.2.1.keep hk,py.keep hk h.2.2⟩
theorem py.mono{w:World}{B B':Nat}(hB:B<=B'):∀{xs:List Value} {ls:List Line},py w B xs ls->py w B' xs ls
 | [],[],_=>trivial
 | a::b::xs,(n,ws)::ls,h=>⟨h.1,h.2.1.mono hB,py.mono hB h.2.2⟩
theorem py.below{w w':World}{B C:Nat}{xs:List Value}{ls:List Line}(h:py w B xs ls)(hb:Below C w w')(hB:B<=C):py w' B xs ls :=
 h.keep λg _ hg _=>hb.block g zo
theorem py.snoc{w:World}{B:Nat}{b:Value}{n:Nat}{ws:List (List UInt8)}(hb:Row w 9 B b ws.length (ws.map u_)):∀{xs:List Value} {ls:List Line},py w B xs ls->py w B (xs++[.int .i64 (n:Int),b]) (ls++[(n,ws)])
 | [],[],_=>⟨rfl,hb,trivial⟩
 | a::c::xs,(m,us)::ls,h=>⟨h.1,h.2.1,py.snoc hb h.2.2⟩
theorem py.len{w:World}{B:Nat}:∀{xs:List Value} {ls:List Line},py w B xs ls->xs.length=ls.length*2
 | [],[],_=>rfl
 | a::c::xs,(m,us)::ls,h=>by have:=py.len h.2.2;simp only[List.length_cons];omega
theorem py.at_{w:World}{B:Nat}:∀{xs:List Value} {ls:List Line} {k:Nat} {n:Nat} {ws:List (List UInt8)},py w B xs ls->ls[k]? = some (n,ws) →
  xs[k*2]? = some (.int .i64 (n:Int))/\∃b,xs[k*2+1]? = some b/\Row w 9 B b ws.length (ws.map u_)
 | [],[],k,n,ws,_,hk=>by simp at hk
 | a::c::xs,(m,us)::ls,0,n,ws,h,hk=>by
  simp at hk;obtain⟨rfl,rfl⟩:=hk;exact⟨by simp[h.1],c,by simp,h.2.1⟩
 | a::c::xs,(m,us)::ls,k+1,n,ws,h,hk=>by
  have:=py.at_ h.2.2 (k:=k) (by simpa using hk);rw[show(k+1)*2=k*2+1+1 by omega];simpa using this
def lZ(w:World)(v:Value)(ls:List Line):Prop:=∃xs,Row w 177 w.heap.size v ls.length xs/\py w w.heap.size xs ls
theorem lZ.below{w w':World}{v:Value}{ls:List Line}(h:lZ w v ls)(hb:Below w.heap.size w w'):lZ w' v ls:=by
 obtain⟨xs,h1,h2⟩:=h;exact⟨xs,(h1.below hb zl).mono hb.size,(h2.below hb zl).mono hb.size⟩
theorem lZ.nil(w:World):lZ w (.slice none 0 0) []:=⟨[],.inl ⟨rfl,rfl,rfl⟩,trivial⟩
theorem lZ.len{w:World}{v:Value}{ls:List Line}(h:lZ w v ls):∃A c,v = .slice A ls.length c:=h.choose_spec.1.len
theorem lZ.at_{w:World}{v:Value}{ls:List Line}(h:lZ w v ls){k n:Nat}{ws:List (List UInt8)}(hk:ls[k]? = some (n,ws)) :
  ∃g cap b,v = .slice (some ⟨g,0,none⟩) ls.length cap/\g<w.heap.size/\w.cell? ⟨g,k*2,none⟩=some (.int .i64 (n:Int))/\w.cell? ⟨g,k*2+1,none⟩=some b/\Row w 9 w.heap.size b ws.length (ws.map u_):=by
 obtain⟨xs,h1,h2⟩:=h
 have hlt:=(List.getElem?_eq_some_iff.1 hk).1
 obtain⟨g,cap,hv,hg,_,_,hc⟩:=h1.at_ zo
 obtain⟨ha,b,hb,hr⟩:=h2.at_ hk
 exact⟨g,cap,b,hv,hg,hc _ _ ha,hc _ _ hb,hr⟩
end Tx
end Go.Proofs.YtbhnbcadgmagpaaGreatDoor
