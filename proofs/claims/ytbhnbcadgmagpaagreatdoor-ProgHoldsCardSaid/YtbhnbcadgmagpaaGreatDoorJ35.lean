import Derived.Test.YtbhnbcadgmagpaaGreatDoorBih
import Derived.Test.YtbhnbcadgmagpaaGreatDoorJ33
import Derived.Test.YtbhnbcadgmagpaaGreatDoorJ17
import Derived.Test.YtbhnbcadgmagpaaGreatDoorJ1
import Derived.Test.YtbhnbcadgmagpaaGreatDoorJ11
import Derived.Test.YtbhnbcadgmagpaaGreatDoorJ34
import Derived.Test.YtbhnbcadgmagpaaGreatDoorJ22
import Derived.Test.YtbhnbcadgmagpaaGreatDoorJ31
set_option linter.unusedVariables false
set_option linter.unusedSimpArgs false
set_option maxHeartbeats 4000000
set_option maxRecDepth 100000
namespace Go.Proofs.YtbhnbcadgmagpaaGreatDoor
open Go.ChangeShapes Go.WideShapes Go.ChangeAt Go.RowKit Go.aN Go.Lib
namespace Pg
open bg (Ms af)
open ak (Ke)
open Me (ptr)
open Tb (UW)
section
variable {b:Bs}{W w':World}{Om Ot K X X':Nat->Prop}{pv lv kv:Value}{S S':Sh}{r r':Rn}{g:Nat}{gs:List Nat}{rs:List Rn}
theorem SR.only(H:SR b Om Ot K pv S W)(ho:ar X W w')(hd:∀j,X j->¬Own Om Ot b.B b.rm pv j/\¬K j/\b.w0.heap.size<=j):SR b Om Ot K pv S w' :=
 {mem:=H.mem.far ho λj hj e=>(hd j e).1 (.inl hj),dr:=H.dr.far ho λj hj e=>(hd j e).1 (.inr (.inl hj)),blk:=H.blk.only ho λe=>(hd _ e).1 (.inr (.inr (.inl rfl)))
  map:=H.map.only ho (λe=>(hd _ e).1 (.inr (.inr (.inr (.inl rfl))))) λj hj e=>(hd j e).2.1 hj
  pts:=bf H.pts λg e=>ho.block g (H.pts.lt g e).2 λh=>(hd _ h).1 (.inr (.inr (.inr (.inr e))))
  az:=H.az.trans (ho.below (λj hj=>(hd j hj).2.2) H.az.size)
  nm:=H.nm,nt:=H.nt,nb:=H.nb,nr:=H.nr,tC:=H.tC,dm:=H.dm,dt:=H.dt,br:=H.br,dp:=H.dp
  dk:=λj hj=>⟨(H.dk j hj).1,Nat.lt_of_lt_of_le (H.dk j hj).2 ho.size⟩ }
theorem RB.only(H:RB b Om Ot K pv g lv kv r W)(ho:ar X W w')(hg : ¬X g)(hk:∀j,K j->¬X j):RB b Om Ot K pv g lv kv r w' :=
 ⟨H.run.only ho hg,H.n_.only ho hk,H.oq.only ho hk,H.ng,H.dg,H.nk⟩
theorem RA.only(H:RA b Om Ot K pv g r W)(ho:ar X W w')(hg : ¬X g)(hk:∀j,K j->¬X j):RA b Om Ot K pv g r w':=by
 obtain⟨lv,kv,h⟩:=H;exact⟨lv,kv,h.only ho hg hk⟩
structure Lw(b:Bs)(S:Sh)(gs:List Nat)(rs:List Rn)(X:Nat->Prop)(W:World):Prop where
 ex:∃Om Ot K pv,SR b Om Ot K pv S W/\(∀(i g:Nat) (r:Rn),gs[i]? = some g->rs[i]? = some r->RA b Om Ot K pv g r W)/\(∀j,X j->¬Own Om Ot b.B b.rm pv j/\¬K j)
 ln:gs.length=rs.length
 nd:gs.Nodup
 gx:∀g∈gs,g<W.heap.size/\¬X g
 xx:∀j,X j->b.w0.heap.size<=j/\j<W.heap.size
def L8(b:Bs)(X:Nat->Prop)(j:Nat):Prop:=b.w0.heap.size<=j/\¬X j
theorem Lw.size(H:Lw b S gs rs X W):b.w0.heap.size<=W.heap.size:=by obtain⟨_,_,_,_,h,_⟩:=H.ex;exact h.az.size
theorem Lw.az(H:Lw b S gs rs X W):Below b.w0.heap.size b.w0 W:=by obtain⟨_,_,_,_,h,_⟩:=H.ex;exact h.az
theorem Lw.ok(H:Lw b S gs rs X W):bg.Ok S.ms/\bJ.dN S.fs/\cB.bN (b.C.n:Int)=true:=by obtain⟨_,_,_,_,h,_⟩:=H.ex;exact⟨h.mem.2,h.dr.2.1,h.dr.2.2⟩
theorem Lw.turn(H:Lw b S gs rs X W)(ho:ar X W w')(hX:∀j,X' j->X j\/W.heap.size<=j/\j<w'.heap.size):Lw b S gs rs X' w':=by
 obtain⟨Om,Ot,K,pv,h1,h2,h3⟩:=H.ex;have hd:∀j,X j->¬Own Om Ot b.B b.rm pv j/\¬K j/\b.w0.heap.size<=j:=λj hj=>⟨(h3 j hj).1,(h3 j hj).2,(H.xx j hj).1⟩
 refine⟨⟨Om,Ot,K,pv,h1.only ho hd,λi g r hg hr=>(h2 i g r hg hr).only ho (H.gx g (List.mem_of_getElem? hg)).2 λj hj e=>(hd j e).2.1 hj,λj hj=>(hX j hj).elim (h3 j) λhj=>⟨λe=>by have:=h1.lt e;omega,λe=>by have:=(h1.dk j e).2;omega⟩⟩,
  H.ln,H.nd,λg hg=>⟨Nat.lt_of_lt_of_le (H.gx g hg).1 ho.size,λe=>(hX g e).elim (H.gx g hg).2 λe=>by have:=(H.gx g hg).1;omega⟩,λj hj=>(hX j hj).elim (λe=>⟨(H.xx j e).1,Nat.lt_of_lt_of_le (H.xx j e).2 ho.size⟩) λe=>⟨Nat.le_trans H.size e.1,e.2⟩⟩
theorem Lw.next(H:Lw b S gs rs X W)(hb:Below W.heap.size W w'):Lw b S gs rs X w':=H.turn (X':=X) (ar.aS hb) λj h=>.inl h
theorem Lw.P_{w0:World}{C:Cf}{B mb tb rm:Nat}(h:SR (bs w0 C B mb tb rm) Om Ot K pv S W):Lw (bs w0 C B mb tb rm) S [] [] (λ_=>False) W :=
 ⟨⟨Om,Ot,K,pv,h,λi g r hg=>by simp at hg,λj hj=>hj.elim⟩,rfl,List.nodup_nil,λg hg=>absurd hg List.not_mem_nil,λj hj=>hj.elim⟩
theorem L9{α:Type}{l:List α}{k:Nat}{x:α}(h:l[k]? = some x):l.set k x=l:=by
 induction l generalizing k with
 | nil=>rfl
 | cons y l ih =>
  cases k with
  | zero=>simp at h;simp[h]
  | succ k=>simp only[List.set_cons_succ];rw[ih (by simpa using h)]
theorem zG{α:Type}{l:List α}{x y:α}{i:Nat}(h:(l++[x])[i]? = some y):l[i]? = some y\/i=l.length/\y=x:=by
 rcases Nat.lt_or_ge i l.length with hl | hl
 ·rw[List.getElem?_append_left hl]at h;exact .inl h
 ·rw[List.getElem?_append_right hl]at h;have hj:i - l.length<[x].length:=(List.getElem?_eq_some_iff.1 h).1
  have:i=l.length:=by simp at hj;omega
  subst this;simp at h;exact .inr ⟨rfl,h.symm⟩
theorem Lw.iL(H:Lw b S gs rs X W)(t op:Int)(ht:0<=t)(n:Int)(A:Option Addr)(l c:Nat)(s:ByteArray)(kd:Int)(he:s_ b.w0)(bs:List UInt8)(hb:bI W W.heap.size A l bs)(hc:l<=c)(hm:c<=9223372036854775807)(hs:s.size<=maxLen) :
  Calls Tryz.prog 11 #[ptr b.B,.int .i64 t,.int .i64 op,.agg (I7 kd n A l c s)] W λe w'=>∃g,e = .returned (ptr g)/\Lw b S (gs++[g]) (rs++[sZ b.C t op kd n bs s.data.toList]) X w'/\ar (L8 b X) W w':=by
 obtain⟨Om,Ot,K,pv,h1,h2,h3⟩:=H.ex
 refine(Hq h1 t op ht n A l c s kd he h1.dr.2.2 bs hb hc hm hs).mono ?_
 rintro e w' ⟨g,jG,tD,K',lY,rfl,hg,k1,k2,k3,k4,k5,k6⟩
 have hlt:g<w'.heap.size:=by obtain⟨_,_,h⟩:=k2;exact h.run.lt
 have hn:∀j∈gs,j≠g:=λj hj=>by have:=(H.gx j hj).1;omega
 refine⟨g,rfl,⟨⟨jG,tD,K',lY,k1,λi g2 r2 oI hr2=>?_,λj hj=>⟨λe=>(k5 j e).elim (h3 j hj).1 λe=>by have:=(H.xx j hj).2;omega,λe=>(k6 j e).elim (h3 j hj).2 λe=>by have:=(H.xx j hj).2;omega⟩⟩,by simp[H.ln],?_,λj hj=>?_,λj hj=>⟨(H.xx j hj).1,Nat.lt_of_lt_of_le (H.xx j hj).2 k4.size⟩⟩,k4.mono λj hj=>⟨?_,λe=>(h3 j e).1 hj⟩⟩
 ·rcases zG oI with e | ⟨e1,rfl⟩
  ·rcases zG hr2 with e2 | ⟨e2,_⟩
   ·exact k3 _ _ (h2 i g2 r2 e e2)
   ·have:=(List.getElem?_eq_some_iff.1 e).1;have:=H.ln;omega
  ·rcases zG hr2 with e2 | ⟨_,rfl⟩
   ·have:=(List.getElem?_eq_some_iff.1 e2).1;have:=H.ln;omega
   ·exact k2
 ·exact List.nodup_append.2 ⟨H.nd,List.nodup_cons.2 ⟨List.not_mem_nil,List.nodup_nil⟩,λa ha b hb e=>by rw[List.mem_singleton.1 hb]at e;exact hn a ha e⟩
 ·rcases List.mem_append.1 hj with hj | hj
  ·exact⟨Nat.lt_of_lt_of_le (H.gx j hj).1 k4.size,(H.gx j hj).2⟩
  ·rw[List.mem_singleton.1 hj];exact⟨hlt,λe=>by have:=(H.xx g e).2;omega⟩
 ·rcases hj with h | h | rfl | rfl | h
  ·exact h1.nm j h
  ·exact h1.nt j h
  ·exact h1.nb
  ·exact h1.nr
  ·exact(h1.pts.lt j h).1
theorem Lw.put(H:Lw b S gs rs X W){k:Nat}(hg:gs[k]? = some g){Om Ot K:Nat->Prop}{pv lv kv:Value}(h1:SR b Om Ot K pv S W)(h2:∀(i g:Nat) (r:Rn),gs[i]? = some g->rs[i]? = some r->RA b Om Ot K pv g r W)(h3:∀j,X j->¬Own Om Ot b.B b.rm pv j/\¬K j)
  (h:RB b Om Ot K pv g lv kv r W) (hy:Y (b.at_ g W (Own Om Ot b.B b.rm pv) K) S' r' w'):Lw b S' gs (rs.set k r') X w'/\ar (L8 b X) W w':=by
 obtain⟨jG,tD,K',lY,k1,k2,k3,k4,k5,k6⟩:=h1.PZ h hy
 have PV:k<gs.length:=(List.getElem?_eq_some_iff.1 hg).1
 have hmem:=List.mem_of_getElem? hg
 refine⟨⟨⟨jG,tD,K',lY,k1,λi g2 r2 oI hr2=>?_,λj hj=>⟨λe=>(k5 j e).elim (h3 j hj).1 λe=>by have:=(H.xx j hj).2;omega,λe=>(k6 j e).elim (h3 j hj).2 λe=>by have:=(H.xx j hj).2;omega⟩⟩,by simp[H.ln],H.nd,λj hj=>⟨Nat.lt_of_lt_of_le (H.gx j hj).1 k4.size,(H.gx j hj).2⟩,λj hj=>⟨(H.xx j hj).1,Nat.lt_of_lt_of_le (H.xx j hj).2 k4.size⟩⟩,k4.mono λj hj=>?_⟩
 ·by_cases e:i=k
  ·subst e;rw[hg]at oI;obtain rfl:=Option.some.inj oI;rw[List.getElem?_set_self (by rw[← H.ln];exact PV)]at hr2;obtain rfl:=Option.some.inj hr2;exact k2
  ·rw[List.getElem?_set_ne (λh=>e h.symm)]at hr2
   have hne:g2≠g:=λe2=>by
    have hil:i<gs.length:=(List.getElem?_eq_some_iff.1 oI).1;exact e ((List.getElem?_inj hil H.nd).1 (by rw[oI,hg,e2]))
   exact k3 g2 r2 hne (h2 i g2 r2 oI hr2)
 ·rcases hj with hj | rfl
  ·refine⟨?_,λe=>(h3 j e).1 hj⟩
   rcases hj with h | h | rfl | rfl | h
   ·exact h1.nm j h
   ·exact h1.nt j h
   ·exact h1.nb
   ·exact h1.nr
   ·exact(h1.pts.lt j h).1
  ·exact⟨h.ng,(H.gx _ hmem).2⟩
theorem Lw.run(H:Lw b S gs rs X W){k:Nat}(hg:gs[k]? = some g):∃r,rs[k]? = some r:=⟨_,List.getElem?_eq_getElem (by have:=(List.getElem?_eq_some_iff.1 hg).1;have:=H.ln;omega)⟩
theorem Lw.stepOf(H:Lw b S gs rs X W){k:Nat}(hg:gs[k]? = some g)(hk:rs[k]? = some r)(hA:r.at_ ≠ .done->Hr r.at_ b.C b.w0)(hr:Rm 12 S)(hF:Fit b.C S r)(he:Env b.w0):Calls Tryz.prog 14 #[ptr g] W λe w'=>e = .returned (.bool (mD S r))/\Lw b (Lf b.C S r).1 gs (rs.set k (Lf b.C S r).2) X w'/\ar (L8 b X) W w':=by
 obtain⟨Om,Ot,K,pv,h1,h2,h3⟩:=H.ex;obtain⟨lv,kv,h⟩:=h2 k g r hg hk;refine(OC (b:=b.at_ g W (Own Om Ot b.B b.rm pv) K) hA (h1.iL ⟨lv,kv,h⟩) hr hF he).mono ?_;rintro e w' ⟨rfl,hy⟩;exact⟨rfl,H.put hg h1 h2 h3 h hy⟩
theorem Lw.blocked(H:Lw b S gs rs X W){k:Nat}(hg:gs[k]? = some g)(hk:rs[k]? = some r):Calls Tryz.prog 18 #[ptr g] W λe w'=>e = .returned (.bool (dS S r))/\Lw b S gs rs X w'/\ar (L8 b X) W w':=by
 obtain⟨Om,Ot,K,pv,h1,h2,h3⟩:=H.ex;obtain⟨lv,kv,h⟩:=h2 k g r hg hk;refine(B9 (b:=b.at_ g W (Own Om Ot b.B b.rm pv) K) (h1.iL ⟨lv,kv,h⟩)).mono ?_;rintro e w' ⟨rfl,hy⟩;have h4:=H.put hg h1 h2 h3 h hy;rw[L9 hk]at h4;exact⟨rfl,h4⟩
theorem Lw.done(H:Lw b S gs rs X W){k:Nat}(hg:gs[k]? = some g)(hk:rs[k]? = some r):Calls Tryz.prog 17 #[ptr g] W λe w'=>e = .returned (eU r)/\Below W.heap.size W w':=by
 obtain⟨Om,Ot,K,pv,h1,h2,h3⟩:=H.ex;obtain⟨lv,kv,h⟩:=h2 k g r hg hk;exact KV h
theorem Lw.gate(H:Lw b S gs rs X W)(he:Env b.w0):Calls Tryz.prog 16 #[ptr b.B] W λe w'=>e = .returned (.agg (jI (vG (af S.ms 0)) (kG (af S.ms 0)) (cG (af S.ms 0))))/\Below W.heap.size W w':=by
 obtain⟨Om,Ot,K,pv,h1,h2,h3⟩:=H.ex;exact KW h1 he
theorem Lw.log(H:Lw b S gs rs X W)(hl:S.ms.ls.length<=1000000000000):Calls Tryz.prog 20 #[ptr b.B] W (Me.yz W S.ms.ls):=by
 obtain⟨Om,Ot,K,pv,h1,h2,h3⟩:=H.ex;exact yA h1 hl
theorem Lw.yP(H:Lw b S gs rs X W)(hl:S.pts.length<=900000000000):Calls Tryz.prog 19 #[ptr b.B] W λe w'=>∃A c,e = .returned (.slice A (real S.pts).length c)/\w'.ownsRow W.heap.size 89 10 (.slice A (real S.pts).length c) (real S.pts).length (rE (real S.pts))/\Below W.heap.size W w':=by
 obtain⟨Om,Ot,K,pv,h1,h2,h3⟩:=H.ex;exact D0 h1 hl
end
end Pg
end Go.Proofs.YtbhnbcadgmagpaaGreatDoor
namespace Go.Proofs.YtbhnbcadgmagpaaGreatDoor
open Go.ChangeShapes Go.WideShapes Go.ChangeAt Go.RowKit Go.aN Go.Lib
namespace Pg
open bg (Ms af bq ay aP ag L4 aH aq ai bD)
open aE (R)
open ak (Ke)
open Me (ptr)
open Tb (UW TM Fw)
structure wB(w:World):Prop where
 eb:s_ w
 au:Au.Env w
theorem wB.below{w w':World}(h:wB w)(hb:Below w.heap.size w w'):wB w':=⟨h.eb.below hb,h.au.only (O:=λ_=>False) (ar.aS hb) λ_ e=>e.elim⟩
theorem eq_self{t:TypeId}(h:Tryz.prog.keyTypeAt 5 t=true)(v:Value)(hf:v.formed Tryz.prog t=true)(hl:(Tryz.prog.keyLits 5 t v.cells.toList).isSome=true)(w:World):(Op.equalIn 10000 t v v).run Tryz.prog w = .ok true w:=by
 obtain⟨l,hl⟩:=Option.isSome_iff_exists.1 hl;obtain⟨r,h1,h2⟩:=run_equalIn_deep 9995 5 t h w 5 5 v v l l hf hf hl hl;rw[h2.2 rfl]at h1;exact h1
theorem D7:Tryz.prog.keyTypeAt 5 89=true:=zk
theorem Ro:Tryz.prog.keyTypeAt 5 49=true:=zk
theorem Rp:Tryz.prog.keyTypeAt 5 45=true:=zk
abbrev SA(kd t o n:Int):Array Value:=#[.int .i64 kd,.int .i64 t,.int .i64 o,.int .u32 0,.int .u32 0,.int .u16 0,.int .u16 0,.int .u8 0,.int .i64 0,.int .i64 n]
theorem WN(w:World):(Op.equalIn 10000 89 (.agg (SA 1 3 7 0)) (.agg (SA 1 3 7 0))).run Tryz.prog w = .ok true w:=eq_self D7 _ zk zk w
theorem WO(w:World):(Op.equalIn 10000 89 (.agg (SA 5 3 7 5)) (.agg (SA 5 3 7 5))).run Tryz.prog w = .ok true w:=eq_self D7 _ zk zk w
theorem WQ(w:World):(Op.equalIn 10000 89 (.agg (SA 8 3 7 5)) (.agg (SA 8 3 7 5))).run Tryz.prog w = .ok true w:=eq_self D7 _ zk zk w
theorem WR(w:World):(Op.equalIn 10000 49 (.agg (ou 0 0 5)) (.agg (ou 0 0 5))).run Tryz.prog w = .ok true w:=eq_self Ro _ zk zk w
theorem WS(w:World):(Op.equalIn 10000 45 (.agg (jI 0 0 5)) (.agg (jI 0 0 5))).run Tryz.prog w = .ok true w:=eq_self Rp _ zk zk w
abbrev c1:Cf:=⟨1,1,λ_=>0⟩
abbrev s0:Sh:=⟨bg.l7 6 (((1:Nat):Int)+1),[],ic (λ_=>[]) 0 [],[]⟩
abbrev q0:Rn:={ rz 3 7 with z:=5,at_:=.readClock }
def s1:Sh:=(Lf c1 s0 q0).1
def q1:Rn:=(Lf c1 s0 q0).2
def s2:Sh:=(Lf c1 s1 q1).1
def q2:Rn:=(Lf c1 s1 q1).2
theorem TK:mD s0 q0=true:=zd
theorem TL:mD s1 q1=true:=zd
theorem Qa:mD s2 q2=false:=zd
theorem Rq:Lf c1 s2 q2=(s2,q2):=by unfold Lf;rw[Qa];rfl
theorem Rr:eU q2 = .tuple #[.agg (ou 0 0 5),.bool true]:=by rfl
theorem TN:real s2.pts=[⟨1,3,7,k0,0,0⟩,⟨5,3,7,k0,0,5⟩,⟨8,3,7,k0,0,5⟩]:=by rfl
theorem TP:s2.ms.ls=[⟨3,3,0⟩,⟨3,4,0⟩]:=by rfl
theorem D8:vG (af s2.ms 0)=0/\kG (af s2.ms 0)=0/\cG (af s2.ms 0)=5:=zd
theorem qB:g_ 0:=⟨by decide,by decide⟩
theorem vz:Fit c1 s0 q0:={ wf:=qB,wg:=qB,wc:=qB,k:=⟨by decide,by decide,by decide,by decide,by decide⟩,p:=⟨by decide,by decide,by decide,by decide,by decide,by decide,by decide⟩,st:=by decide,cn:=by decide,cT:=(λ_=>by show(-9223372036854775808:Int)<=0/\(0:Int)<=_;omega),z:=by decide,tt:=by decide,mr:=(λh=>by rcases h with h | h <;> cases h),q:=(λh=>by rcases h with h | h | h <;> cases h) }
theorem TS:Fit c1 s1 q1:={ wf:=qB,wg:=qB,wc:=qB,k:=vz.k,p:=vz.p,st:=by decide,cn:=by decide,cT:=vz.cT,z:=by decide,tt:=by decide,mr:=(λh=>by rcases h with h | h <;> cases h),q:=(λh=>by rcases h with h | h | h <;> cases h) }
theorem TT:Fit c1 s2 q2:={ wf:=qB,wg:=qB,wc:=qB,k:=vz.k,p:=vz.p,st:=by decide,cn:=by decide,cT:=vz.cT,z:=by decide,tt:=by decide,mr:=(λh=>by rcases h with h | h <;> cases h),q:=(λh=>by rcases h with h | h | h <;> cases h) }
theorem OR{w0:World}{C:Cf}(he:Env w0):Hr .readClock C w0:=fun {b W S r} hC hw ha H hr hF=>by
 rw[show aY b.C S r=fT S r by unfold aY;rw[ha],ha];exact ot H hr hF (hw▸he)
theorem Rs{w0:World}{C:Cf}(he:Env w0):Hr .tick C w0:=fun {b W S r} hC hw ha H hr hF=>by
 rw[show aY b.C S r=jW S r by unfold aY;rw[ha],ha];exact Bp H hr hF (hw▸he)
theorem WT:Rm 36 s0:=⟨by decide,by decide,by decide,by decide⟩
theorem WU:Rm 24 s1:=⟨by decide,by decide,by decide,by decide⟩
theorem WV:Rm 12 s2:=⟨by decide,by decide,by decide,by decide⟩
theorem OS(w:World):Me.QA (w.alloc (.cells #[.int .i64 3,.int .i64 3,.int .i64 0,.int .i64 3,.int .i64 4,.int .i64 0] 92)) (w.heap.size+1) (.slice (some ⟨w.heap.size,0,none⟩) 2 2) s2.ms.ls:=by
 rw[TP];refine⟨_,2,rfl,Nat.le_refl _,by omega,rfl,λ_=>⟨w.heap.size,0,rfl,by omega,λj u hu=>?_⟩⟩;rw[Nat.zero_add,cell_of_row _ _ j _ _ (0,0) (heap_alloc_new w _),List.getElem?_toArray];exact hu
theorem nV(w:World)(he:wB w):Calls Tryz.prog 10 #[] w λe w'=>e = .returned (.bool true)/\Below w.heap.size w w':=by
 have TU:Hid (Calls Tryz.prog 7 #[.agg (Au.iT ((1:Nat):Int) 1 (λ_=>0)),.slice none 0 0] w λe w'=>∃B mb tb rm Om Ot K,e = .returned (.tuple #[ptr B,.int .i64 0])/\SR (bs w c1 B mb tb rm) Om Ot K (.slice none 0 0) s0 w') :=
  zE he.au 1 1 (λ_=>0) none 0 0 [] rfl (gK.nil w _) (λr h=>absurd h List.not_mem_nil) zd zd zo
 have HE:=hid he;clear he;go_in;go_wp2_with fail;refine(TU.out).mono ?_;rintro e w1 ⟨B,mb,tb,rm,Om,Ot,K,rfl,hs⟩;have H1:Hid (Lw (bs w c1 B mb tb rm) s0 [] [] (λ_=>False) w1):=Lw.P_ hs;clear hs TU;go_wp2_with fail;refine(H1.out.iL 3 7 zo 5 none 0 0 ByteArray.empty 2 HE.out.eb [] (bI.empty _ _ _) zl zo zd).mono ?_;rintro e w2 ⟨g,rfl,hw,-⟩;have H2:Hid (Lw (bs w c1 B mb tb rm) s0 [g] [q0] (λ_=>False) w2):=hw;clear hw H1;go_wp2_with fail;refine(H2.out.stepOf (k:=0) (g:=g) rfl rfl (λ_=>OR HE.out.eb.pg) (WT.mono zo) vz HE.out.eb.pg).mono ?_;rintro e w3 ⟨he,hw,-⟩;rw[TK]at he;subst he;have H3:Hid (Lw (bs w c1 B mb tb rm) s1 [g] [q1] (λ_=>False) w3):=hw;clear hw H2;go_wp2_with fail;refine(H3.out.stepOf (k:=0) (g:=g) rfl rfl (λ_=>Rs HE.out.eb.pg) (WU.mono zo) TS HE.out.eb.pg).mono ?_;rintro e w4 ⟨he,hw,-⟩;rw[TL]at he;subst he;have H4:Hid (Lw (bs w c1 B mb tb rm) s2 [g] [q2] (λ_=>False) w4):=hw;clear hw H3;go_wp2_with fail;refine(H4.out.stepOf (k:=0) (g:=g) rfl rfl (λh=>absurd rfl h) (WV) TT HE.out.eb.pg).mono ?_;rintro e w5 ⟨he,hw,-⟩;rw[Qa]at he;rw[show(bs w c1 B mb tb rm).C=c1 from rfl,Rq]at hw;subst he;have H5:Hid (Lw (bs w c1 B mb tb rm) s2 [g] [q2] (λ_=>False) w5):=hw;clear hw H4;go_wp2_with fail;refine(H5.out.done (k:=0) (g:=g) rfl rfl).mono ?_;rintro e w6 ⟨he,hb⟩;rw[Rr]at he;subst he;have H6:=hid (H5.out.next hb);have UZ:=hid (H6.out.next (ae w6 (.cells (ou 0 0 5) 49)));have U0:=hid (aF.box w6 (ou 0 0 5) 49);clear hb H5;go_wp2_with fail;obtain⟨W6,Yx⟩:∃V,w6.alloc (.cells #[.int .i64 0,.int .i64 0,.int .i64 5] 49)=V:=⟨_,rfl⟩;rw[Yx]at UZ U0 ⊢;obtain⟨gr,zS⟩:∃x,w6.heap.size=x:=⟨_,rfl⟩;rw[zS]at U0
 try rw[zS]
 clear Yx zS H6;have WW:=hid (UZ.out.yP zd);rw[TN]at WW;refine(WW.out).mono ?_;rintro e w7 ⟨A,c,rfl,hrow,hb⟩;have H7:=hid (UZ.out.next hb);have OT:=hid (U0.out.next hb)
 obtain⟨gp,rfl⟩:∃gp,A=some ⟨gp,0,none⟩:=by
  rcases hrow.2 with⟨e,h0⟩ | ⟨g,cap,cur,e,_⟩
  ·simp at h0
  ·injection e with e;exact⟨g,e⟩
 have hcap:3<=c/\c<=9223372036854775807:=by
  obtain⟨A',c',e,h1,h2⟩:=cO hrow;injection e with _ _ e;subst e;exact⟨h1,h2⟩
 obtain⟨hc1,hc2⟩:=hcap;clear hb UZ U0 WW;have p0:w7.cell? ⟨gp,0,none⟩=some (.int .i64 1):=(hrow.cellAt 0 zd).trans rfl;have p1:w7.cell? ⟨gp,1,none⟩=some (.int .i64 3):=(hrow.cellAt 1 zd).trans rfl;have p2:w7.cell? ⟨gp,2,none⟩=some (.int .i64 7):=(hrow.cellAt 2 zd).trans rfl;have p3:w7.cell? ⟨gp,3,none⟩=some (.int .u32 0):=(hrow.cellAt 3 zd).trans rfl;have p4:w7.cell? ⟨gp,4,none⟩=some (.int .u32 0):=(hrow.cellAt 4 zd).trans rfl;have p5:w7.cell? ⟨gp,5,none⟩=some (.int .u16 0):=(hrow.cellAt 5 zd).trans rfl;have p6:w7.cell? ⟨gp,6,none⟩=some (.int .u16 0):=(hrow.cellAt 6 zd).trans rfl;have p7:w7.cell? ⟨gp,7,none⟩=some (.int .u8 0):=(hrow.cellAt 7 zd).trans rfl;have p8:w7.cell? ⟨gp,8,none⟩=some (.int .i64 0):=(hrow.cellAt 8 zd).trans rfl;have p9:w7.cell? ⟨gp,9,none⟩=some (.int .i64 0):=(hrow.cellAt 9 zd).trans rfl;have Vo:w7.cell? ⟨gp,10,none⟩=some (.int .i64 5):=(hrow.cellAt 10 zd).trans rfl;have Vp:w7.cell? ⟨gp,11,none⟩=some (.int .i64 3):=(hrow.cellAt 11 zd).trans rfl;have Vq:w7.cell? ⟨gp,12,none⟩=some (.int .i64 7):=(hrow.cellAt 12 zd).trans rfl;have Vr:w7.cell? ⟨gp,13,none⟩=some (.int .u32 0):=(hrow.cellAt 13 zd).trans rfl;have Vs:w7.cell? ⟨gp,14,none⟩=some (.int .u32 0):=(hrow.cellAt 14 zd).trans rfl;have Vt:w7.cell? ⟨gp,15,none⟩=some (.int .u16 0):=(hrow.cellAt 15 zd).trans rfl;have Vu:w7.cell? ⟨gp,16,none⟩=some (.int .u16 0):=(hrow.cellAt 16 zd).trans rfl;have Vv:w7.cell? ⟨gp,17,none⟩=some (.int .u8 0):=(hrow.cellAt 17 zd).trans rfl;have Vw:w7.cell? ⟨gp,18,none⟩=some (.int .i64 0):=(hrow.cellAt 18 zd).trans rfl;have Vx:w7.cell? ⟨gp,19,none⟩=some (.int .i64 5):=(hrow.cellAt 19 zd).trans rfl;have Vy:w7.cell? ⟨gp,20,none⟩=some (.int .i64 8):=(hrow.cellAt 20 zd).trans rfl;have Vz:w7.cell? ⟨gp,21,none⟩=some (.int .i64 3):=(hrow.cellAt 21 zd).trans rfl;have I2:w7.cell? ⟨gp,22,none⟩=some (.int .i64 7):=(hrow.cellAt 22 zd).trans rfl;have Z6:w7.cell? ⟨gp,23,none⟩=some (.int .u32 0):=(hrow.cellAt 23 zd).trans rfl;have Z7:w7.cell? ⟨gp,24,none⟩=some (.int .u32 0):=(hrow.cellAt 24 zd).trans rfl;have Z8:w7.cell? ⟨gp,25,none⟩=some (.int .u16 0):=(hrow.cellAt 25 zd).trans rfl;have Z9:w7.cell? ⟨gp,26,none⟩=some (.int .u16 0):=(hrow.cellAt 26 zd).trans rfl;have Z_:w7.cell? ⟨gp,27,none⟩=some (.int .u8 0):=(hrow.cellAt 27 zd).trans rfl;have Z':w7.cell? ⟨gp,28,none⟩=some (.int .i64 0):=(hrow.cellAt 28 zd).trans rfl;have p29:w7.cell? ⟨gp,29,none⟩=some (.int .i64 5):=(hrow.cellAt 29 zd).trans rfl;have y0:=OT.out.cell 0 _ rfl;have y1:=OT.out.cell 1 _ rfl;have y2:=OT.out.cell 2 _ rfl;have e1:=WN;have e2:=WO;have e3:=WQ;have e4:=WR;clear hrow;go_wp2_with fail;refine(H7.out.log zd).mono ?_;rintro e w8 ⟨v,rfl,h1,-,hb⟩;obtain⟨A2,c2,rfl,-,-⟩:=h1.len;have H8:=hid (H7.out.next hb);have HL:=hid h1;clear h1 hb H7 OT p0 p1 p2 p3 p4 p5 p6 p7 p8 p9 Vo Vp Vq Vr Vs Vt Vu Vv Vw Vx Vy Vz I2 Z6 Z7 Z8 Z9 Z_ Z' p29 y0 y1 y2 e1 e2 e3 e4;go_wp2_with fail;have WX:=ae w8 (.cells #[.int .i64 3,.int .i64 3,.int .i64 0,.int .i64 3,.int .i64 4,.int .i64 0] 92);have Yy:=hid (Me.F5 _ _ s2.ms.ls _ (HL.out.next WX) ((OS w8).more zs));have H9:=hid (H8.out.next WX);clear WX HL H8;refine(Yy.out).mono ?_;rintro e w9 ⟨rfl,q,rfl⟩;have WY:=hid (H9.out.next ((Below.refl _ _).lW q));clear Yy H9;go_wp2_with fail;have WZ:=hid (WY.out.gate HE.out.eb.pg);rw[D8.1,D8.2.1,D8.2.2]at WZ;have e5:=WS;refine(WZ.out).mono ?_;rintro e w11 ⟨rfl,hb⟩;have H11:=hid (WY.out.next hb);clear hb WZ WY;go_wp2_with fail;go_ret;exact⟨rfl,H11.out.az⟩
end Pg
end Go.Proofs.YtbhnbcadgmagpaaGreatDoor
namespace Go.Proofs.YtbhnbcadgmagpaaGreatDoor
open Go.ChangeShapes Go.WideShapes Go.ChangeAt Go.RowKit Go.aN Go.Lib Go.Deep
namespace Pg
structure Ov where
 kd:Int
 n:Int
 A:Option Addr
 l:Nat
 c:Nat
 bs:List UInt8
 s:ByteArray
abbrev M_(x:Ov):Array Value:=I7 x.kd x.n x.A x.l x.c x.s
structure Ov.Ok(x:Ov):Prop where
 kd : -9223372036854775808<=x.kd/\x.kd<=9223372036854775807
 n : -9223372036854775808<=x.n/\x.n<=9223372036854775807
 l:x.l<=x.c
 c:x.c<=maxLen
 s:x.s.size<=maxLen
def Qb(w:World)(B:Nat)(v:Value)(xs:List Ov):Prop:=∃A c,v = .slice A xs.length c/\xs.length<=c/\c<=maxLen ∧
 (0<xs.length->∃b off,A=some ⟨b,off,none⟩/\b<B/\∀(i:Nat) (x:Ov),xs[i]? = some x->∀(j:Nat) (u:Value),(M_ x)[j]? = some u->w.cell? ⟨b,off+(i*4+j),none⟩=some u)/\∀x∈xs,bI w B x.A x.l x.bs
theorem Qb.keep{w w':World}{B:Nat}{v:Value}{xs:List Ov}(H:Qb w B v xs)(hk:∀p:Addr,p.block<B->w'.cell? p=w.cell? p):Qb w' B v xs:=by
 obtain⟨A,c,e,h1,h2,h3,h4⟩:=H
 exact⟨A,c,e,h1,h2,λhn=>by
  obtain⟨b,off,e1,e2,e3⟩:=h3 hn
  exact⟨b,off,e1,e2,λi x hx j u hu=>(hk _ e2).trans (e3 i x hx j u hu)⟩,λx hx=>(h4 x hx).keep hk⟩
theorem Qb.below{w w':World}{B:Nat}{v:Value}{xs:List Ov}(H:Qb w B v xs)(hb:Below B w w'):Qb w' B v xs:=H.keep λ_ hp=>hb.cell hp
section
variable {H:Type}{enc:TypeId×Value->H}{P:Program}{w:World}
structure zH(P:Program)(t:TypeId):Prop where
 ty:∃(fs:Array Field) (ti tb tc ts:TypeId),P.underlying t=some (.struct fs)/\fs.toList.map (λf=>(f.type,f.offset))=[(ti,0),(ti,1),(tb,2),(ts,3)] ∧
  P.underlying ti=some (.int .i64)/\P.underlying tb=some (.slice tc)/\P.underlying tc=some (.int .u8)/\P.cellsOf tc=1/\P.underlying ts=some .string/\P.cellsOf t=4/\P.cellsOf ti=1/\P.cellsOf tb=1/\P.cellsOf ts=1
theorem Ik{t:TypeId}(D:zH P t){n:Nat}{cs:List Value}(hl:cs.length=4){x:DataW H×List MemPlace}(h:DataW.trod enc P w 0 (λ_=>true) true n t cs=some x) :
  ∃y:Ov,cs=(M_ y).toList/\y.Ok/\bI w w.heap.size y.A y.l y.bs:=by
 obtain⟨fs,ti,tb,tc,ts,hs,hf,hi,hb,hc,cc,hst,ct,ci,cb,YA⟩:=D.ty
 obtain⟨ys,m,_,_,_,Kz,hg⟩:=DataW.trod_struct hs h
 obtain⟨fl⟩:=fs
 obtain⟨f0,f1,f2,f3,rfl⟩:∃f0 f1 f2 f3,fl=[f0,f1,f2,f3]:=by
  rcases fl with _ | ⟨f0,_ | ⟨f1,_ | ⟨f2,_ | ⟨f3,_ | ⟨f4,fl⟩⟩⟩⟩⟩
  ·simp at hf
  ·simp at hf
  ·simp at hf
  ·simp at hf
  ·exact⟨_,_,_,_,rfl⟩
  ·simp at hf
 simp only[List.map_cons,List.map_nil,List.cons.injEq,Prod.mk.injEq,and_true]at hf
 obtain⟨⟨e0,o0⟩,⟨e1,o1⟩,⟨e2,o2⟩,e3,o3⟩:=hf
 have hy:ys.length=4:=Kz
 have g0:=hg 0 f0 rfl
 have g1:=hg 1 f1 rfl
 have g2:=hg 2 f2 rfl
 have g3:=hg 3 f3 rfl
 rw[e0,o0,ci,List.getElem?_eq_getElem zo]at g0
 rw[e1,o1,ci,List.getElem?_eq_getElem zo]at g1
 rw[e2,o2,cb,List.getElem?_eq_getElem zo]at g2
 rw[e3,o3,YA,List.getElem?_eq_getElem zo]at g3
 match cs,hl with
 | [v0,v1,v2,v3],_ =>
  simp only[List.drop_zero,List.take_succ_cons,List.take_zero,List.drop_succ_cons]at g0 g1 g2 g3
  obtain⟨kd,ekd,_,YB⟩:=DataW.trod_int hi g0
  obtain⟨xn,exn,_,YC⟩:=DataW.trod_int hi g1
  obtain rfl:v0 = .int .i64 kd:=by simpa using ekd
  obtain rfl:v1 = .int .i64 xn:=by simpa using exn
  obtain⟨s,es,_,hsz⟩:=DataW.trod_string hst g3
  obtain rfl:v3 = .string s:=by simpa using es
  rcases open_ints hb hc cc g2 with⟨hcs,_⟩ | ⟨a,l,c,zs,hcs,_,qJ,hm,hz,_,hcell,lu⟩
  ·obtain rfl:v2 = .slice none 0 0:=by simpa using hcs
   exact⟨⟨kd,xn,none,0,0,[],s⟩,rfl,⟨bounds_i64 YB,bounds_i64 YC,Nat.le_refl _,Nat.zero_le _,hsz⟩,bI.empty _ _ _⟩
  ·obtain rfl:v2 = .slice (some a) l c:=by simpa using hcs
   obtain⟨bs,pz⟩:=pR (len:=l) (by rw[hz];simp;omega) hcell lu;exact⟨⟨kd,xn,some a,l,c,bs,s⟩,rfl,⟨bounds_i64 YB,bounds_i64 YC,qJ,hm,hsz⟩,pz⟩
theorem Mc{t e:TypeId}(D:zH P e)(ht:P.underlying t=some (.slice e)){A:Option Addr}{len cap:Nat}{d:DataW H}{p:List MemPlace}
  (h:DataW.Trod enc P w 0 (λ_=>true) true t (.slice A len cap) d p):∃xs:List Ov,xs.length=len/\Qb w w.heap.size (.slice A len cap) xs/\∀x∈xs,x.Ok:=by
 have hC:P.cellsOf e=4:=by obtain⟨fs,ti,tb,tc,ts,hs,hf,hi,hb,hc,cc,hst,ct,ci,cb,YA⟩:=D.ty;exact ct
 obtain⟨fuel,hf⟩:=h
 rcases open_slice ht hf with⟨hcs,_⟩ | ⟨a,l,c,m,n',D',Pl,hcs,hb,hl,hm,hmm,_,hi⟩
 ·simp[Value.cells]at hcs;obtain⟨rfl,rfl,rfl⟩:=hcs;exact⟨[],rfl,⟨none,0,rfl,Nat.le_refl _,Nat.zero_le _,λh=>absurd h zs,λx hx=>by cases hx⟩,λx hx=>by cases hx⟩
 ·simp[Value.cells]at hcs;obtain⟨rfl,rfl,rfl⟩:=hcs;simp at hmm;subst hmm;rw[hC]at hi
  have each:∀i,i<len->∃y:Ov,y.Ok/\bI w w.heap.size y.A y.l y.bs/\∀(j:Nat) (u:Value),(M_ y)[j]? = some u->w.cell? (a.add (i*4+j))=some u:=by
   intro i hlt;obtain⟨cs',hc,htr⟩:=hi i zo;obtain⟨_,hcl,Qv⟩:=World.cells?_some hc;obtain⟨y,hy,hok,hrd⟩:=Ik D hcl htr;refine⟨y,hok,hrd,λj u hu=>?_⟩;have hj:j<4:=(Array.getElem?_eq_some_iff.1 hu).1;rw[← Go.Deep.add_add,Qv j hj,hy,← hu];simp
  have all:∀n,n<=len->∃xs:List Ov,xs.length=n/\(∀x∈xs,x.Ok/\bI w w.heap.size x.A x.l x.bs)/\∀(i:Nat) (x:Ov),xs[i]? = some x->∀(j:Nat) (u:Value),(M_ x)[j]? = some u->w.cell? (a.add (i*4+j))=some u:=by
   intro n
   induction n with
   | zero=>intro _;exact⟨[],rfl,(λx hx=>by cases hx),(λi x hx=>by simp at hx)⟩
   | succ n ih =>
    intro hn
    obtain⟨xs,h1,h2,h3⟩:=ih zo
    obtain⟨y,ho,hr,hc⟩:=each n zo
    refine⟨xs++[y],by simp[h1],λq hq=>?_,λi q hq=>?_⟩
    ·rcases List.mem_append.1 hq with hq | hq
     ·exact h2 q hq
     ·rw[List.mem_singleton.1 hq];exact⟨ho,hr⟩
    ·by_cases hj:i<xs.length
     ·rw[List.getElem?_append_left hj]at hq;exact h3 i q hq
     ·have CJ:i<(xs++[y]).length:=(List.getElem?_eq_some_iff.1 hq).1
      have hin:i=n:=by simp at CJ;omega
      subst hin;rw[List.getElem?_append_right zo,h1,Nat.sub_self]at hq;simp at hq;subst hq;exact hc
  obtain⟨xs,h1,h2,h3⟩:=all len zl;refine⟨xs,h1,⟨some a,m,by rw[h1],by omega,hm,λhn=>?_,λx hx=>(h2 x hx).2⟩,λx hx=>(h2 x hx).1⟩;obtain⟨b,off,sp⟩:=a;obtain⟨x,hx⟩:∃x,xs[0]? = some x:=⟨_,List.getElem?_eq_getElem hn⟩;have hc0:=h3 0 x hx 0 _ rfl
  obtain rfl:sp=none:=by simpa[Addr.add]using World.cell?_spot hc0
  have hb0:=World.block_lt_of_cell? _ _ hc0;refine⟨b,off,rfl,by simpa[Addr.add]using hb0,λi x hx j u hu=>?_⟩
  have e:∀j,Addr.add ⟨b,off,none⟩ j=⟨b,off+j,none⟩:=λj=>by unfold Addr.add;split <;> simp_all
  rw[← e];exact h3 i x hx j u hu
end
theorem OU:zH Tryz.prog 39 :=
 ⟨_,3,27,5,9,Tryz.underlying39,by kernel_rfl,Tryz.underlying3,Tryz.underlying27,Tryz.underlying5,by kernel_rfl,Tryz.underlying9,by kernel_rfl,by kernel_rfl,by kernel_rfl,by kernel_rfl⟩
end Pg
end Go.Proofs.YtbhnbcadgmagpaaGreatDoor
namespace Go.Proofs.YtbhnbcadgmagpaaGreatDoor
open Go.ChangeShapes Go.WideShapes Go.ChangeAt Go.RowKit Go.aN Go.Shelf Go.Lib
namespace Pg
abbrev Sd:List (String×DataW Unit):=("mantlet/flow.parts",Rows.laid_mantlet_flow_parts)::("mantlet/gate.parts",Rows.laid_mantlet_gate_parts)::("mantlet/tcp.consistent",Rows.laid_mantlet_tcp_consistent)::Ru.MT
theorem iO{W:World}(hL:laidMetH Tryz.prog Sd W)(hsh:W.ShapedOpen Tryz.prog):wB W:=by
 rw[MakeChecks.laidMetH_plain _ _ _ zk]at hL;have h1:laidMet Tryz.prog (("mantlet/flow.parts",Rows.laid_mantlet_flow_parts)::_) W:=hL;have h2:=h1.tail;have h3:=h2.tail;have h4:=h3.tail;have hg:Ga.Env W:=Ga.iO (by rw[MakeChecks.laidMetH_plain _ _ _ zk];exact Au.kZ h2);have hf:Fl.Env W:=Fl.iO (by rw[MakeChecks.laidMetH_plain _ _ _ zk];exact Au.kZ h1);have ht:Tc.Env W:=Tc.iO (by rw[MakeChecks.laidMetH_plain _ _ _ zk];exact Au.kZ h3);have hr:Ru.Env W:=Ru.iO (by rw[MakeChecks.laidMetH_plain _ _ _ zk];exact h4) hsh;exact⟨⟨⟨hg,hf⟩,ht,hr⟩,⟨hg,hf,⟨hr.ad.dr⟩⟩⟩
end Pg
end Go.Proofs.YtbhnbcadgmagpaaGreatDoor
