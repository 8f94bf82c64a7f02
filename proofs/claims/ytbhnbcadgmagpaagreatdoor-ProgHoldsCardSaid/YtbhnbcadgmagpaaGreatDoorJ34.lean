import Derived.Test.YtbhnbcadgmagpaaGreatDoorBih
import Derived.Test.YtbhnbcadgmagpaaGreatDoorJ32
import Derived.Test.YtbhnbcadgmagpaaGreatDoorJ1
import Derived.Test.YtbhnbcadgmagpaaGreatDoorJ3
import Derived.Test.YtbhnbcadgmagpaaGreatDoorJ7
import Derived.Test.YtbhnbcadgmagpaaGreatDoorJ6
import Derived.Test.YtbhnbcadgmagpaaGreatDoorRows
set_option linter.unusedVariables false
set_option linter.unusedSimpArgs false
set_option maxRecDepth 100000
namespace Go.Proofs.YtbhnbcadgmagpaaGreatDoor
open Go.ChangeShapes Go.WideShapes Go.ChangeAt Go.RowKit Go.aN Go.Lib
namespace Au
open ak
open aE (R)
open iw (K fst j3 rp)
structure Dk where
 kd:Nat
 n:Int
 p:K
 k:Ke
 l:List R
 va:Value
structure Dk.Ok(x:Dk):Prop where
 kd:x.kd<256
 n : -9223372036854775808<=x.n/\x.n<=9223372036854775807
 p:x.p.Ok
 k:x.k.Ok
 l:∀r∈x.l,r.Ok
abbrev Yz(x:Dk):Array Value :=
 #[.int .u8 (x.kd:Int),.int .i64 x.n,.int .u8 (x.p.pr:Int),.int .u32 (x.p.sr:Int),.int .u32 (x.p.ds:Int),.int .u16 (x.p.sp:Int),.int .u16 (x.p.dp:Int),.int .u8 (x.p.fl:Int),.int .u8 (x.p.kd:Int),
  .int .u32 (x.k.a:Int),.int .u32 (x.k.b:Int),.int .u16 (x.k.p:Int),.int .u16 (x.k.q:Int),.int .u8 (x.k.r:Int),x.va]
def L_(N:Int)(T:Nat->Int)(s:St)(x:Dk):St :=
 if x.kd % 8=0 then P4 s x.n else if x.kd % 8=1 then aP s (yH x.l)else if x.kd % 8=2 then D5 s x.k else if x.kd % 8=3 then Fm s x.k else Rl N T s x.p
def TV(N:Int)(T:Nat->Int)(s:St)(xs:List Dk):St:=xs.foldl (L_ N T) s
theorem Inv.step{N:Int}{T:Nat->Int}{s:St}(H:Inv N s){x:Dk}(hx:x.Ok):Inv N (L_ N T s x):=by
 unfold L_;split
 ·exact H.tick x.n
 ·split
  ·exact H.swap (Km hx.l)
  ·split
   ·exact H.del x.k
   ·split
    ·exact H.drop x.k
    ·exact H.act hx.p
theorem Inv.run{N:Int}{T:Nat->Int}{s:St}(H:Inv N s){xs:List Dk}(hx:∀x∈xs,x.Ok):Inv N (TV N T s xs):=by
 unfold TV
 induction xs generalizing s with
 | nil=>exact H
 | cons x xs ih=>exact ih (H.step (hx x List.mem_cons_self)) λy hy=>hx y (List.mem_cons_of_mem _ hy)
end Au
namespace Au
open ak
open aE (R)
open iw (K)
def M8(w:World)(B:Nat)(v:Value)(xs:List Dk):Prop :=
 ∃A c,v = .slice A xs.length c/\xs.length<=c/\c<=9223372036854775807/\(0<xs.length->∃b off,A=some ⟨b,off,none⟩/\b<B/\∀(i:Nat) (x:Dk),xs[i]? = some x->∀(j:Nat) (u:Value),(Yz x)[j]? = some u->w.cell? ⟨b,off+(i*15+j),none⟩=some u) ∧
  ∀x∈xs,gK w B x.va x.l
theorem M8.keep{w w':World}{B:Nat}{v:Value}{xs:List Dk}(h:M8 w B v xs)(hk:∀p:Addr,p.block<B->w'.cell? p=w.cell? p):M8 w' B v xs:=by
 obtain⟨A,c,e,h1,h2,h3,h4⟩:=h;refine⟨A,c,e,h1,h2,λhn=>?_,λx hx=>(h4 x hx).keep hk⟩;obtain⟨b,off,e2,hb,hc⟩:=h3 hn;exact⟨b,off,e2,hb,λi x hx j u hu=>(hk ⟨b,_,none⟩ hb).trans (hc i x hx j u hu)⟩
theorem M8.below{w w':World}{B:Nat}{v:Value}{xs:List Dk}(h:M8 w B v xs)(hb:Below B w w'):M8 w' B v xs:=h.keep λ_ hp=>hb.cell hp
theorem M8.len{w:World}{B:Nat}{v:Value}{xs:List Dk}(h:M8 w B v xs):∃A c,v = .slice A xs.length c/\xs.length<=c/\c<=9223372036854775807:=by
 obtain⟨A,c,e,h1,h2,_⟩:=h;exact⟨A,c,e,h1,h2⟩
theorem M8.at_{w:World}{B:Nat}{v:Value}{xs:List Dk}(h:M8 w B v xs){len:Nat}(hl:xs.length=len){i:Nat}{x:Dk}(hx:xs[i]? = some x) :
  ∃b off c,v = .slice (some ⟨b,off,none⟩) len c/\len<=c/\c<=9223372036854775807/\w.rangeAt b (off+i*15) (Yz x).toList/\gK w B x.va x.l:=by
 subst hl
 obtain⟨A,c,rfl,h1,h2,h3,h4⟩:=h
 obtain⟨b,off,rfl,hb,hc⟩:=h3 (by have:=(List.getElem?_eq_some_iff.1 hx).1;omega)
 refine⟨b,off,c,rfl,h1,h2,λj u hu=>?_,h4 x (List.mem_of_getElem? hx)⟩
 rw[Nat.add_assoc]
 exact hc i x hx j u (by simpa using hu)
section
variable {w W w':World}{O O':Nat->Prop}{B M:Nat}{N:Int}{T:Nat->Int}{s s':St}
end
end Au
end Go.Proofs.YtbhnbcadgmagpaaGreatDoor
namespace Go.Proofs.YtbhnbcadgmagpaaGreatDoor
open Go.ChangeShapes Go.WideShapes Go.ChangeAt Go.RowKit Go.aN Go.Lib Go.Deep
namespace Au
open ak
open aE (R)
open iw (K)
section
variable {H:Type}{enc:TypeId×Value->H}{P:Program}{w:World}{base:Nat}{spare:Nat->Bool}{held:Bool}
theorem Ij{t e:TypeId}{k:IntKind}{m:Nat}(ha:P.underlying t=some (.array m e))(he:P.underlying e=some (.int k))(hc:P.cellsOf e=1){n:Nat}{cs:List Value}(hl:cs.length=m){x:DataW H×List MemPlace}
  (h:DataW.trod enc P w base spare held n t cs=some x):∃f:Nat->Int,∀i,i<m->cs[i]? = some (.int k (f i))/\(Lit.int k (f i)).wf=true:=by
 obtain⟨xs,m',_,_,_,hxl,hg⟩:=DataW.trod_array ha h
 have one:∀i:Nat,i<m->∃a:Int,cs[i]? = some (.int k a)/\(Lit.int k a).wf=true:=by
  intro i hi;have g:=hg i hi;rw[hc,Nat.mul_one]at g;rw[List.drop_eq_getElem_cons zo,List.take_succ_cons,List.take_zero,List.getElem?_eq_getElem zo]at g;obtain⟨a,ea,_,wa⟩:=DataW.trod_int he g;refine⟨a,?_,wa⟩;rw[List.getElem?_eq_getElem zo];simpa using ea
 have F:∀i:Nat,∃a:Int,i<m->cs[i]? = some (.int k a)/\(Lit.int k a).wf=true:=by
  intro i;by_cases hi:i<m
  ·obtain⟨a,ha⟩:=one i hi;exact⟨a,λ_=>ha⟩
  ·exact⟨0,λh=>absurd h hi⟩
 exact⟨λi=>Classical.choose (F i),λi hi=>Classical.choose_spec (F i) hi⟩
theorem Mb{r:Reach}{b0:Nat}{t ti ta:TypeId}{fs:Array Field}{v:Value}{d:DataW H}{p:List MemPlace}(hs:P.underlying t=some (.struct fs))(hC:P.cellsOf t=18)(hf:fs.toList.map (λf=>(f.type,f.offset))=[(ti,0),(ti,1),(ta,2)])
  (hi:P.underlying ti=some (.int .i64)) (ha:P.underlying ta=some (.array 16 ti)) (ci:P.cellsOf ti=1) (ca:P.cellsOf ta=16) (hv:Value.okWide P w r b0 t v) (h:DataW.Trod enc P w base spare held t v d p) :
  ∃(z N:Int) (T:Nat->Int),v = .agg (iT z N T)/\(-9223372036854775808<=z/\z<=9223372036854775807)/\(-9223372036854775808<=N/\N<=9223372036854775807)/\∀i,-9223372036854775808<=T i/\T i<=9223372036854775807:=by
 obtain⟨vs,rfl,hsz⟩:=okWide_struct hs hv
 obtain⟨fuel,hfu⟩:=h
 obtain⟨ys,n,_,_,_,Kz,hg⟩:=DataW.trod_struct hs hfu
 rw[hC]at hsz
 obtain⟨l⟩:=vs
 obtain⟨fl⟩:=fs
 obtain⟨f0,f1,f2,rfl⟩:∃f0 f1 f2,fl=[f0,f1,f2]:=by
  rcases fl with _ | ⟨f0,_ | ⟨f1,_ | ⟨f2,_ | ⟨f3,fl⟩⟩⟩⟩
  ·simp at hf
  ·simp at hf
  ·simp at hf
  ·exact⟨_,_,_,rfl⟩
  ·simp at hf
 simp only[List.map_cons,List.map_nil,List.cons.injEq,Prod.mk.injEq,and_true]at hf
 obtain⟨⟨t0,o0⟩,⟨t1,o1⟩,t2,o2⟩:=hf
 have g0:=hg 0 f0 rfl
 have g1:=hg 1 f1 rfl
 have g2:=hg 2 f2 rfl
 have hy:ys.length=3:=Kz
 have hcs:(Value.agg (⟨l⟩:Array Value)).cells.toList=l:=by simp[Value.cells]
 have PS:l.length=18:=by simpa using hsz
 rw[t0,o0,ci,List.getElem?_eq_getElem zo,hcs]at g0
 rw[t1,o1,ci,List.getElem?_eq_getElem zo,hcs]at g1
 rw[t2,o2,ca,List.getElem?_eq_getElem zo,hcs]at g2
 obtain⟨T,hT⟩:=Ij ha hi ci zt g2
 match l,PS with
 | [c0,c1,d0,d1,d2,d3,d4,d5,d6,d7,d8,d9,e0,e1,e2,e3,e4,e5],_ =>
  simp only[List.drop_zero,List.take_succ_cons,List.take_zero,List.drop_succ_cons]at g0 g1
  obtain⟨z,ez,_,wz⟩:=DataW.trod_int hi g0
  obtain⟨N,eN,_,wN⟩:=DataW.trod_int hi g1
  obtain rfl:c0 = .int .i64 z:=by simpa using ez
  obtain rfl:c1 = .int .i64 N:=by simpa using eN
  simp only[List.take_succ_cons,List.take_zero,List.drop_zero,List.drop_succ_cons]at hT
  have q:∀i,i<16->-9223372036854775808<=T i/\T i<=9223372036854775807:=λi hi=>by have:=bounds_i64 (hT i hi).2;omega
  refine⟨z,N,λi=>if i<16 then T i else 0,?_,bounds_i64 wz,bounds_i64 wN,λi=>?_⟩
  ·have x0:=(hT 0 zo).1;have x1:=(hT 1 zo).1;have x2:=(hT 2 zo).1;have x3:=(hT 3 zo).1;have x4:=(hT 4 zo).1;have x5:=(hT 5 zo).1;have x6:=(hT 6 zo).1;have x7:=(hT 7 zo).1;have x8:=(hT 8 zo).1;have x9:=(hT 9 zo).1;have y0:=(hT 10 zo).1;have y1:=(hT 11 zo).1;have y2:=(hT 12 zo).1;have y3:=(hT 13 zo).1;have y4:=(hT 14 zo).1;have y5:=(hT 15 zo).1;simp at x0 x1 x2 x3 x4 x5 x6 x7 x8 x9 y0 y1 y2 y3 y4 y5;subst x0 x1 x2 x3 x4 x5 x6 x7 x8 x9 y0 y1 y2 y3 y4 y5;rfl
  ·show _<=(if i<16 then T i else 0)/\(if i<16 then T i else 0)<=_;split
   ·exact q i zz
   ·omega
end
end Au
end Go.Proofs.YtbhnbcadgmagpaaGreatDoor
namespace Go.Proofs.YtbhnbcadgmagpaaGreatDoor
open Go.ChangeShapes Go.WideShapes Go.ChangeAt Go.RowKit Go.aN Go.Shelf Go.Lib
namespace Au
theorem kZ{P:Program}{x:String×DataW Unit}{r:List (String×DataW Unit)}{w:World}(h:laidMet P (x::r) w):laidMet P [x] w:=by
 obtain⟨ps,hv,hnd,hrows⟩:=h;obtain⟨n,d⟩:=x;obtain⟨g,t,cs,fuel,p,q,h1,h2,h3,h4,hq,rfl⟩:=hv;refine⟨_,⟨g,t,cs,fuel,p,[],h1,h2,h3,h4,rfl,rfl⟩,?_,λb off hm=>hrows b off (List.mem_append_left _ ?_)⟩
 ·rw[List.append_nil];exact List.Nodup.sublist (List.sublist_append_left _ _) hnd
 ·rw[List.append_nil]at hm;exact hm
end Au
end Go.Proofs.YtbhnbcadgmagpaaGreatDoor
