import Derived.Test.YtbhnbcadgmagpaaGreatDoorBih
import Derived.Test.YtbhnbcadgmagpaaGreatDoorJ1
import Derived.Test.YtbhnbcadgmagpaaGreatDoorJ35
import Derived.Test.YtbhnbcadgmagpaaGreatDoorJ3
set_option linter.unusedVariables false
set_option linter.unusedSimpArgs false
set_option maxHeartbeats 8000000
set_option maxRecDepth 100000
namespace Go.Proofs.YtbhnbcadgmagpaaGreatDoor
open Go.ChangeShapes Go.WideShapes Go.ChangeAt Go.RowKit Go.aN Go.Lib
namespace Pg
open bg (Ms af)
open ak (Ke)
open Me (ptr)
open Tb (UW)
theorem aaq(n:Int)(W:World):Calls Tryz.prog 53 #[.pointer none,.int .i64 n] W λe w'=>e = .returned (.pointer none)/\w'=W:=by
 go_in;go_wp2_with fail;go_ret;exact⟨rfl,rfl⟩
theorem aaJ(n:Int)(W:World):Calls Tryz.prog 23 #[.pointer none,.int .i64 n] W λe w'=>e = .returned (.bool false)/\w'=W:=by
 go_in;go_wp2_with fail;refine(aaq n W).mono ?_;rintro e w1 ⟨rfl,rfl⟩;go_wp2_with fail;go_ret;exact⟨rfl,rfl⟩
theorem abd(n:Int)(W:World):Calls Tryz.prog 25 #[.pointer none,.int .i64 n] W λe w'=>e = .returned (.bool true)/\w'=W:=by
 go_in;go_wp2_with fail;refine(aaq n W).mono ?_;rintro e w1 ⟨rfl,rfl⟩;go_wp2_with fail;go_ret;exact⟨rfl,rfl⟩
theorem aa4(n:Int)(W:World):Calls Tryz.prog 26 #[.pointer none,.int .i64 n] W λe w'=>e = .returned (.bool false)/\w'=W:=by
 go_in;go_wp2_with fail;refine(aaq n W).mono ?_;rintro e w1 ⟨rfl,rfl⟩;go_wp2_with fail;go_ret;exact⟨rfl,rfl⟩
theorem abe(W:World):Calls Tryz.prog 27 #[.pointer none] W λe w'=>e = .returned (.bool true)/\w'=W:=by
 go_in;go_wp2_with fail;go_ret;exact⟨rfl,rfl⟩
theorem aaO(W:World):Calls Tryz.prog 28 #[.pointer none] W λe w'=>e = .returned (.int .i64 0)/\w'=W:=by
 go_in;go_wp2_with fail;go_ret;exact⟨rfl,rfl⟩
theorem aaP(n:Int)(W:World):Calls Tryz.prog 29 #[.pointer none,.int .i64 n] W λe w'=>e = .returned (.slice none 0 0)/\w'=W:=by
 go_in;go_wp2_with fail;refine(aaq n W).mono ?_;rintro e w1 ⟨rfl,rfl⟩;go_wp2_with fail;go_ret;exact⟨rfl,rfl⟩
theorem aaX(W:World):Calls Tryz.prog 30 #[.pointer none] W λe w'=>e = .returned (.pointer none)/\w'=W:=by
 go_in;go_wp2_with fail;go_ret;exact⟨rfl,rfl⟩
theorem abB(A:Option Addr)(n c:Nat)(zs:List Int)(W:World)(hz:Ints .i64 W W.heap.size A n zs)(hc:n<=c)(hm:c<=9223372036854775807):Calls Tryz.prog 24 #[.pointer none,.slice A n c] W λe w'=>e = .returned (.int .i64 0)/\w'=W:=by
 go_in;go_wp2_with fail;go_loopw [5,10] (λnv vi wr=>∃k:Nat,nv = .int .i64 0/\vi = .int .i64 (k:Int)/\k<=n/\wr=W) (λ_ vi _=>n - (RowKit.intOf vi).toNat)
 case atStart=>exact⟨0,rfl,rfl,Nat.zero_le _,rfl⟩
 case round =>
  obtain⟨k,rfl,rfl,hk,rfl⟩:=hrel;by_cases hlt:k<n
  ·obtain⟨b,off,rfl,hb,hc⟩:=hz.at_ zo;have p0:=hc k hlt;go_wp2_with fail;refine(aaJ _ _).mono ?_;rintro e w1 ⟨rfl,rfl⟩;go_wp2_with fail;go_roundw
   case rel=>exact⟨k+1,rfl,by go_num,by omega,by trivial⟩
   case measure=>simp[RowKit.intOf];omega
  ·go_wp2_with fail;go_ret;exact⟨rfl,rfl⟩
end Pg
namespace Pg
open bg (Ms af bq ay aP ag L4 aH aq ai bD)
open aE (R)
open ak (Ke)
open Me (ptr)
open Tb (UW TM Fw)
abbrev thc(i:Int)(rv:Value)(A:Option Addr)(n c:Nat)(pv:Value):Array Value:=#[.int .i64 i,rv,.slice A n c,pv]
def Rest(R:Nat->Prop)(v:Value)(xs:List Ov)(W:World):Prop:=(∀j,R j->j<W.heap.size)/\∀w',W.heap.size<=w'.heap.size->(∀p:Addr,R p.block->w'.cell? p=W.cell? p)->Qb w' w'.heap.size v xs
theorem Rest.only{R X:Nat->Prop}{v:Value}{xs:List Ov}{W w':World}(H:Rest R v xs W)(ho:ar X W w')(hd:∀j,R j->¬X j):Rest R v xs w' :=
 ⟨λj hj=>Nat.lt_of_lt_of_le (H.1 j hj) ho.size,λw2 h1 h2=>H.2 w2 (Nat.le_trans ho.size h1) λp hp=>(h2 p hp).trans (ho.cell (H.1 _ hp) (hd _ hp))⟩
theorem Rest.ovs{R:Nat->Prop}{v:Value}{xs:List Ov}{W:World}(H:Rest R v xs W):Qb W W.heap.size v xs:=H.2 W zl λ_ _=>rfl
theorem Qb.tail{w:World}{B:Nat}{A A':Option Addr}{c c':Nat}{x:Ov}{xs:List Ov}(H:Qb w B (.slice A (xs.length+1) c) (x::xs))(h1:xs.length<=c')(h2:c'<=maxLen)(ha:0<xs.length->∀b off,A=some ⟨b,off,none⟩->A'=some ⟨b,off+4,none⟩):Qb w B (.slice A' xs.length c') xs:=by
 obtain⟨A2,c2,e,k1,k2,k3,k4⟩:=H;injection e with e1 e2 e3;subst e1;refine⟨A',c',rfl,h1,h2,λhn=>?_,λy hy=>k4 y (List.mem_cons_of_mem _ hy)⟩;obtain⟨b,off,e,hb,hc⟩:=k3 zs;refine⟨b,off+4,ha hn b off e,hb,λi y hy j u hu=>?_⟩;have:=hc (i+1) y (by simpa using hy) j u hu;rw[← this,show off+4+(i*4+j)=off+((i+1)*4+j) by omega]
theorem Rest.tail{R:Nat->Prop}{A A':Option Addr}{c c':Nat}{x:Ov}{xs:List Ov}{W:World}(H:Rest R (.slice A (xs.length+1) c) (x::xs) W)(h1:xs.length<=c')(h2:c'<=maxLen)(ha:0<xs.length->∀b off,A=some ⟨b,off,none⟩->A'=some ⟨b,off+4,none⟩):Rest R (.slice A' xs.length c') xs W :=
 ⟨H.1,λw' k1 k2=>(H.2 w' k1 k2).tail h1 h2 ha⟩
theorem aao{wb:Nat}{sv tv:Value}{hs:List Nat}{W:World}{B:Nat}(hB:aF W wb #[sv,tv] 118)(hr:W.ownsRow B 111 1 tv hs.length (hs.map ptr)){k h:Nat}(hg:hs[k]? = some h) :
  Calls Tryz.prog 53 #[ptr wb,.int .i64 (k:Int)] W λe w'=>e = .returned (ptr h)/\w'=W:=by
 obtain⟨x,c,rfl,h1,h2,h3,h4,h5,_⟩:=pX hr (j:=k) (u:=ptr h) (by rw[List.getElem?_map,hg];rfl)
 have hk:=(List.getElem?_eq_some_iff.1 hg).1
 have y1:=hB.cell 1 _ rfl
 have d0:decide ((k:Int)<0)=false:=zs
 have d1:decide ((k:Int)>=(hs.length:Int))=false:=zt
 clear hB hr hg
 go_in
 go_wp2_with fail
 go_ret
 exact⟨rfl,rfl⟩
theorem aaY{wb:Nat}{sv tv:Value}{hs:List Nat}{W:World}{B:Nat}(hB:aF W wb #[sv,tv] 118)(hr:W.ownsRow B 111 1 tv hs.length (hs.map ptr)){n:Int}(hn:n<0\/(hs.length:Int)<=n) :
  Calls Tryz.prog 53 #[ptr wb,.int .i64 n] W λe w'=>e = .returned (.pointer none)/\w'=W:=by
 obtain⟨A,c,rfl,h1,h2⟩:=cO hr
 have y1:=hB.cell 1 _ rfl
 clear hB hr
 by_cases h:n<0
 ·have d0:decide (n<0)=true:=zt;clear hn;go_in;go_wp2_with fail;go_ret;exact⟨rfl,rfl⟩
 ·have d0:decide (n<0)=false:=zt;have d1:decide (n>=(hs.length:Int))=true:=zt;clear hn;go_in;go_wp2_with fail;go_ret;exact⟨rfl,rfl⟩
theorem abf{h:Nat}{i:Int}{rv sv pv:Value}{A:Option Addr}{c:Nat}{W:World}(hB:aF W h (thc i rv A 0 c pv) 114) :
  Calls Tryz.prog 54 #[ptr h,sv] W λe w'=>e = .returned U/\w'=W.setCell ⟨h,1,none⟩ (.pointer none):=by
 have q1:=hB.cell 1 _ rfl
 have f1:=hB.frozen 1
 have q2:=(hB.set' 1 (.pointer none) (cs':=thc i (.pointer none) A 0 c pv) rfl).cell 2 _ rfl
 clear hB
 go_in
 go_wp2_with fail
 go_end0
 exact⟨rfl,rfl⟩
section
variable {b:Bs}{S:Sh}{gs:List Nat}{rs:List Rn}{X R:Nat->Prop}{W w w':World}{h:Nat}{cs cs':Array Value}{v:Value}{xs:List Ov}
structure Bg(b:Bs)(S:Sh)(gs:List Nat)(rs:List Rn)(X R:Nat->Prop)(W:World)(h:Nat)(cs:Array Value)(v:Value)(xs:List Ov)(w:World):Prop where
 lw:Lw b S gs rs X w
 blk:aF w h cs 114
 rest:Rest R v xs w
 Gs:ar (λj=>L8 b X j\/j=h) W w
 xh:X h
 rx:∀j,R j->X j/\j≠h
theorem Bg.next(H:Bg b S gs rs X R W h cs v xs w)(hb:Below w.heap.size w w'):Bg b S gs rs X R W h cs v xs w' :=
 ⟨H.lw.next hb,H.blk.next hb,H.rest.only (ar.aS (O:=λ_=>False) hb) (λ_ _ e=>e),H.Gs.next hb,H.xh,H.rx⟩
theorem Bg.set(H:Bg b S gs rs X R W h cs v xs w)(k:Nat)(u:Value)(hc:cs.setIfInBounds k u=cs'):Bg b S gs rs X R W h cs' v xs (w.setCell ⟨h,k,none⟩ u):=by
 have ho:ar (· = h) w (w.setCell ⟨h,k,none⟩ u):=ar.st (LL w h) k u;exact⟨H.lw.turn (X':=X) (ho.mono λj e=>by rw[show j=h from e];exact H.xh) λj hj=>.inl hj,H.blk.set' k u hc,H.rest.only ho λj hj e=>(H.rx j hj).2 e,H.Gs.trans ho λj e=>.inl (.inr e),H.xh,H.rx⟩
theorem Bg.call(H:Bg b S gs rs X R W h cs v xs w){gs':List Nat}{XA:List Rn}(h1:Lw b S gs' XA X w')(h2:ar (L8 b X) w w'):Bg b S gs' XA X R W h cs v xs w' :=
 ⟨h1,H.blk.only h2 λe=>e.2 H.xh,H.rest.only h2 λj hj e=>e.2 (H.rx j hj).1,H.Gs.trans h2 λj e=>.inl (.inl e),H.xh,H.rx⟩
theorem Rest.op{A:Option Addr}{n c:Nat}{x:Ov}(H:Rest R (.slice A n c) (x::xs) w):∃bo off,A=some ⟨bo,off,none⟩/\n=xs.length+1/\n<=c/\c<=maxLen/\w.cell? ⟨bo,off,none⟩=some (.int .i64 x.kd)/\w.cell? ⟨bo,off+1,none⟩=some (.int .i64 x.n) ∧
  w.cell? ⟨bo,off+2,none⟩=some (.slice x.A x.l x.c)/\w.cell? ⟨bo,off+3,none⟩=some (.string x.s)/\bI w w.heap.size x.A x.l x.bs:=by
 obtain⟨A2,c2,e2,hc1,hc2,Qv,Ya⟩:=H.ovs
 injection e2 with e1 e2 e3
 subst e1
 subst e2
 subst e3
 obtain⟨bo,off,rfl,hbo,hcl⟩:=Qv zs
 have q:∀(j:Nat) (u:Value),(M_ x)[j]? = some u->w.cell? ⟨bo,off+j,none⟩=some u:=λj u hu=>by have:=hcl 0 x rfl j u hu;simpa using this
 exact⟨bo,off,rfl,rfl,hc1,hc2,q 0 _ rfl,q 1 _ rfl,q 2 _ rfl,q 3 _ rfl,Ya x (List.mem_cons_self ..)⟩
theorem Bg.tail{i:Int}{rv pv:Value}{bo off c c':Nat}{A':Option Addr}{x:Ov}(H:Bg b S gs rs X R W h (thc i rv (some ⟨bo,off,none⟩) (xs.length+1) c pv) (.slice (some ⟨bo,off,none⟩) (xs.length+1) c) (x::xs) w)(h1:xs.length<=c')(h2:c'<=maxLen)(ha:0<xs.length->A'=some ⟨bo,off+4,none⟩) :
  Bg b S gs rs X R W h (thc i rv A' xs.length c' pv) (.slice A' xs.length c') xs (w.setCell ⟨h,2,none⟩ (.slice A' xs.length c')):=by
 have H1:=H.set 2 (.slice A' xs.length c') (cs':=thc i rv A' xs.length c' pv) rfl
 exact⟨H1.lw,H1.blk,H1.rest.tail h1 h2 (λhn b' o' e=>by
  injection e with e
  injection e with e1 e2 _
  subst e1
  subst e2
  exact ha hn),H1.Gs,H1.xh,H1.rx⟩
theorem Rest.four{bo off n c:Nat}{x:Ov}(H:Rest R (.slice (some ⟨bo,off,none⟩) n c) (x::xs) w):w.cell? ⟨bo,off,none⟩=some (.int .i64 x.kd)/\w.cell? ⟨bo,off+1,none⟩=some (.int .i64 x.n)/\w.cell? ⟨bo,off+2,none⟩=some (.slice x.A x.l x.c)/\w.cell? ⟨bo,off+3,none⟩=some (.string x.s):=by
 obtain⟨b1,o1,e,_,_,_,h1,h2,h3,h4,_⟩:=H.op;injection e with e;injection e with e1 e2 _;subst e1;subst e2;exact⟨h1,h2,h3,h4⟩
theorem aaB(H:Lw b S gs rs X W)(he:s_ b.w0){i:Int}{rv:Value}{A PA:Option Addr}{n c m pc:Nat}{x:Ov}(hB:aF W h (thc i rv A n c (.slice PA m pc)) 114)(hX:X h)(hR:Rest R (.slice A n c) (x::xs) W)(hRX:∀j,R j->X j/\j≠h)
  (hx:x.Ok) (hi:0<=i) :
  Calls Tryz.prog 54 #[ptr h,ptr b.B] W λe w'=>∃g A' c',e = .returned U/\Bg b S (gs++[g]) (rs++[sZ b.C i (m:Int) x.kd x.n x.bs x.s.data.toList]) X R W h (thc i (ptr g) A' xs.length c' (.slice PA m pc)) (.slice A' xs.length c') xs w':=by
 obtain⟨bo,off,rfl,rfl,hc1,hc2,-,-,-,-,-⟩:=hR.op
 have HE:=hid he
 have Zf:=hid hx
 have q1:=hB.cell 1 _ rfl
 have f1:=hB.frozen 1
 have PP:Hid (Bg b S gs rs X R W h (thc i rv (some ⟨bo,off,none⟩) (xs.length+1) c (.slice PA m pc)) (.slice (some ⟨bo,off,none⟩) (xs.length+1) c) (x::xs) W):=⟨H,hB,hR,ar.refl _ _,hX,hRX⟩
 have HQ:=hid (PP.out.set 1 (.pointer none) (cs':=thc i (.pointer none) (some ⟨bo,off,none⟩) (xs.length+1) c (.slice PA m pc)) rfl)
 clear H he hB hR hRX hx hX PP
 have q2:=HQ.out.blk.cell 2 _ rfl
 have d0:decide (((xs.length+1:Nat):Int)>0)=true:=zs
 go_in
 go_wp2_with fail
 clear q1 f1 q2
 generalize W.setCell ⟨h,1,none⟩ (.pointer none)=W1 at *
 refine wp_region_held_drew (S:=λw'=>w'.cell? ⟨h,0,none⟩=some (.int .i64 i)/\w'.cell? ⟨h,3,none⟩=some (.slice PA m pc)/\w'.cell? ⟨h,2,none⟩=some (.slice (some ⟨bo,off,none⟩) (xs.length+1) c)/\w'.cell? ⟨bo,off,none⟩=some (.int .i64 x.kd)/\w'.cell? ⟨bo,off+1,none⟩=some (.int .i64 x.n)/\w'.cell? ⟨bo,off+2,none⟩=some (.slice x.A x.l x.c)/\w'.cell? ⟨bo,off+3,none⟩=some (.string x.s)) zk (⟨(HQ.out.next ((Below.refl _ _).drew)).blk.cell 0 _ rfl,(HQ.out.next ((Below.refl _ _).drew)).blk.cell 3 _ rfl,(HQ.out.next ((Below.refl _ _).drew)).blk.cell 2 _ rfl,Rest.four (HQ.out.next ((Below.refl _ _).drew)).rest⟩) (λhH=>?_)
 refine zr 0 13 hH ?_
 refine zr 1 14 hH ?_
 refine zr 2 15 hH ?_
 refine zr 3 16 hH ?_
 refine zr 4 17 hH ?_
 refine zr 5 18 hH ?_
 refine zr 6 19 hH ?_
 refine zr 7 20 hH ?_
 refine zr 8 21 hH ?_
 refine zr 9 22 hH ?_
 refine zr 10 23 hH ?_
 refine zr 11 24 hH ?_
 refine zr 12 25 hH ?_
 refine zr 13 26 hH ?_
 refine zr 14 27 hH ?_
 refine zr 15 28 hH ?_
 try simp only[zq]
 refine zqt 16 (some 29) ?v17 rfl rfl ?c17 hH ?r17
 case c17=>(intro w' hS;obtain⟨h0,h3,h2,o0,o1,o2,o3⟩:=hS;go_simp;(try with_reducible rfl))
 try simp only[zq]
 refine zrd 17 (λK hK=>?_)
 have V3:=hid (HQ.out.next ((Below.refl _ W1).drew))
 have UR:=hid V3.out.rest.op
 go_simp
 refine(V3.out.lw.iL i (m:Int) hi x.n x.A x.l x.c x.s x.kd HE.out x.bs (by obtain⟨_,_,_,_,_,_,_,_,_,_,h⟩:=UR.out;exact h) Zf.out.l Zf.out.c Zf.out.s).mono ?_
 rintro e w2 ⟨g,rfl,hl,ho⟩
 have Q_:=hid (V3.out.call hl ho)
 clear hl ho V3 HQ UR
 refine hK.out _ _ (⟨Q_.out.blk.cell 0 _ rfl,Q_.out.blk.cell 3 _ rfl,Q_.out.blk.cell 2 _ rfl,Rest.four Q_.out.rest⟩) (λhH=>?_)
 clear hK K
 try simp only[zq]
 refine zr 18 31 hH ?_
 refine zr 19 32 hH ?_
 try simp only[zq]
 refine zrd 20 (λK hK=>?_)
 have f0:=Q_.out.blk.frozen 1
 have c0:=Q_.out.blk.cell 1 _ rfl
 go_simp
 clear c0 f0
 have vZ:=hid (Q_.out.set 1 (ptr g) (cs':=thc i (ptr g) (some ⟨bo,off,none⟩) (xs.length+1) c (.slice PA m pc)) rfl)
 clear Q_
 refine hK.out _ _ (⟨vZ.out.blk.cell 0 _ rfl,vZ.out.blk.cell 3 _ rfl,vZ.out.blk.cell 2 _ rfl,Rest.four vZ.out.rest⟩) (λhH=>?_)
 clear hK K
 try simp only[zq]
 refine wpAnyH_done zk ?_ _
 clear hH
 generalize w2.setCell ⟨h,1,none⟩ (ptr g)=W3 at *
 have c2:=vZ.out.blk.cell 2 _ rfl
 have f2:=vZ.out.blk.frozen 2
 go_wp2_with fail
 all_goals go_end0
 all_goals exact⟨rfl,g,_,_,vZ.out.tail zo (by unfold maxLen at *;omega) (λhn=>by first | rfl | (exfalso;omega))⟩
end
end Pg
end Go.Proofs.YtbhnbcadgmagpaaGreatDoor
namespace Go.Proofs.YtbhnbcadgmagpaaGreatDoor
open Go.ChangeShapes Go.WideShapes Go.ChangeAt Go.RowKit Go.aN Go.Lib
namespace Pg
open bg (Ms af bq ay aP ag L4 aH aq ai bD)
open aE (R)
open ak (Ke)
open Me (ptr)
open Tb (UW TM Fw)
theorem abg{P:Program}{w:World}{o:Oper}{a:Act}{K:Act->World->Prop}{Q:Exit->Act->World->Prop}{ops:Array Oper}{E:Prop}(hgd:o.guard=none)(s x:Operand)(t e:TypeId)
  (ho:o.op = .call { callee:=.builtin .append,args:=#[s,x],argTypes:=#[t,t] })
  (ht:P.underlying t=some (.slice e)) (z:Value) (size bytes:Nat) (hinfo:(P.info? e).map (λi=>(i.zero,i.size,i.bytes))=some (some z,size,bytes)) (hzs:z.cells.size=size) (hsz:0<size) (hby:bytes<=64)
  (base:Nat) (hbase:base<=w.heap.size) (v:Value) (n:Nat) (xs:List Value) (hs:a.eval s=v) (hown:w.ownsRow base e size v n xs) (b c:Nat) (us:List Value) (hx:a.eval x = .slice (some ⟨b,0,none⟩) 1 c) (Vd:us.length=size)
  (hc:∀j u,us[j]? = some u->w.cell? ⟨b,j,none⟩=some u) (h1:∀u∈us,u.oneCell'=true) (k:Nat) (hk:n+1=k) (hn:k<=1000000000000)
  (h:∀A' c' w',Hid (w'.ownsRow base e size (.slice A' k c') k (xs++us))->Hid (w.grownBy w' v.ownBlock)->Hid ((Value.slice A' k c').ownBlock=v.ownBlock\/∃g,(Value.slice A' k c').ownBlock=some g/\w.heap.size<=g/\g<w'.heap.size)->K (a.put o.dst (.slice A' k c')) w') :
  if Region.wanted o (yielded ops a.tmps)=true then Oper.wp P o a w K Q else E:=by
 subst hk
 have hw:Region.wanted o (yielded ops a.tmps)=true:=by simp[Region.wanted,hgd]
 rw[if_pos hw]
 obtain⟨i,hi,hz0,hz1,jc⟩:=info_parts hinfo
 obtain⟨v',w',h0,g1,g2,_,g4⟩:=run_append_own_at (P:=P) w base t o.type e i z size bytes ht hi hz0 hz1 jc hzs hsz v n xs hown ⟨b,0,none⟩ 1 c us (by rw[Vd,Nat.one_mul])
  (by
   intro j u hu
   have e1:(Addr.add ⟨b,0,none⟩ j)=⟨b,j,none⟩:=by unfold Addr.add;split <;> simp_all
   rw[e1]
   exact hc j u hu)
  h1 (by unfold maxLen;omega) (by have:(n+1)*bytes<=1000000000000*64:=Nat.mul_le_mul hn hby;omega) hbase
 obtain⟨A',c',rfl,-,-⟩:=cO g1
 unfold Oper.wp execOp
 simp only[ho,resolve,invoke,builtin,Sem.run_bind,Sem.run_pure,Result.andThen_ok,List.map_toArray,List.map_cons,List.map_nil,hs,hx,h0]
 exact h _ _ _ g1 g2 (g4.imp id λg=>⟨_,g,Nat.le_refl _,(g1.lt _ g).2⟩)
theorem aaC:(Tryz.prog.info? 49).map (λi=>(i.zero,i.size,i.bytes))=some (some (.agg (ou 0 0 0)),3,24):=zk
structure Th where
 run:Option Nat
 rest:List Ov
 rep:List (Int×Int×Int)
structure Ws where
 S:Sh
 rs:List Rn
 ts:List Th
def rpl(l:List (Int×Int×Int)):List Value:=l.flatMap λx=>(ou x.1 x.2.1 x.2.2).toList
def aaZ(gs:List Nat):Option Nat->Value
 | none=>.pointer none
 | some k=>ptr (gs.getD k 0)
def aav(C:Cf)(i:Nat)(rs:List Rn)(t:Th):List Rn×Th:=match t.rest with
 | []=>(rs,{ t with run:=none })
 | x::xs=>(rs++[sZ C (i:Int) (t.rep.length:Int) x.kd x.n x.bs x.s.data.toList],⟨some rs.length,xs,t.rep⟩)
def aa0(C:Cf)(st:Ws)(i:Nat)(t:Th)(k:Nat)(r:Rn):Bool×Ws :=
 if mD st.S r then
  if (Lf C st.S r).2.en then
   (true,⟨(Lf C st.S r).1,(aav C i (st.rs.set k (Lf C st.S r).2) { t with rep:=t.rep++[((Lf C st.S r).2.e,(Lf C st.S r).2.v,(Lf C st.S r).2.n)] }).1,
    st.ts.set i (aav C i (st.rs.set k (Lf C st.S r).2) { t with rep:=t.rep++[((Lf C st.S r).2.e,(Lf C st.S r).2.v,(Lf C st.S r).2.n)] }).2⟩)
  else(true,⟨(Lf C st.S r).1,st.rs.set k (Lf C st.S r).2,st.ts⟩)
 else(false,st)
def Tn(C:Cf)(st:Ws)(n:Int):Bool×Ws :=
 if n<0 then(false,st)else match st.ts[n.toNat]? with
 | none=>(false,st)
 | some t=>match t.run with
  | none=>(false,st)
  | some k=>match st.rs[k]? with
   | none=>(false,st)
   | some r=>aa0 C st n.toNat t k r
section
variable {b:Bs}{S S':Sh}{gs gs' hs:List Nat}{rs XA:List Rn}{X Z O R:Nat->Prop}{W w w':World}{h i wb B:Nat}{t t':Th}{st:Ws}{tv:Value}{OO:Nat->Nat->Prop}
structure Ta(gs:List Nat)(B:Nat)(O:Nat->Prop)(i h:Nat)(t:Th)(W:World):Prop where
 ex:∃A c PA pc R,aF W h (thc (i:Int) (aaZ gs t.run) A t.rest.length c (.slice PA t.rep.length pc)) 114/\Rest R (.slice A t.rest.length c) t.rest W/\W.ownsRow B 49 3 (.slice PA t.rep.length pc) t.rep.length (rpl t.rep) ∧
  (∀j,(Value.slice PA t.rep.length pc).ownBlock=some j->O j/\j≠h/\¬R j)/\(∀j,R j->O j/\j≠h)
 oh:O h
 rl:∀k,t.run=some k->k<gs.length
 ok:∀x∈t.rest,x.Ok
 sz:t.rep.length+t.rest.length+(if t.run=none then 0 else 1)<=1000000
theorem abC{rv:Value}{A PA:Option Addr}{n c m pc:Nat}(e1:rv=aaZ gs t.run)(e2:n=t.rest.length)(e3:m=t.rep.length)(h1:aF W h (thc (i:Int) rv A n c (.slice PA m pc)) 114)(h2:Rest R (.slice A n c) t.rest W)(h3:W.ownsRow B 49 3 (.slice PA m pc) m (rpl t.rep))
  (h4:∀j,(Value.slice PA m pc).ownBlock=some j->O j/\j≠h/\¬R j) (h5:∀j,R j->O j/\j≠h) (oh:O h) (rl:∀k,t.run=some k->k<gs.length) (ok:∀x∈t.rest,x.Ok) (sz:t.rep.length+t.rest.length+(if t.run=none then 0 else 1)<=1000000):Ta gs B O i h t W:=by
 subst e1 e2 e3
 exact⟨⟨A,c,PA,pc,R,h1,h2,h3,h4,h5⟩,oh,rl,ok,sz⟩
theorem Ta.keep(H:Ta gs B O i h t W)(ho:ar Z W w')(hd:∀j,O j->¬Z j):Ta gs B O i h t w':=by
 obtain⟨A,c,PA,pc,R,h1,h2,h3,h4,h5⟩:=H.ex;exact⟨⟨A,c,PA,pc,R,h1.only ho (hd _ H.oh),h2.only ho λj hj=>hd j (h5 j hj).1,bf h3 λg e=>ho.block g (h3.lt g e).2 (hd g (h4 g e).1),h4,h5⟩,H.oh,H.rl,H.ok,H.sz⟩
theorem abD{o:Option Nat}(hl:∀k,o=some k->k<gs.length)(l:List Nat):aaZ (gs++l) o=aaZ gs o:=by
 cases o with
 | none=>rfl
 | some k=>unfold aaZ;simp[List.getD,List.getElem?_append_left (hl k rfl)]
theorem Ta.more(H:Ta gs B O i h t W)(l:List Nat):Ta (gs++l) B O i h t W:=by
 obtain⟨A,c,PA,pc,R,h1,h⟩:=H.ex;exact⟨⟨A,c,PA,pc,R,by rw[abD H.rl];exact h1,h⟩,H.oh,λk hk=>by have:=H.rl k hk;simp;omega,H.ok,H.sz⟩
structure Wd(b:Bs)(wb:Nat)(st:Ws)(X:Nat->Prop)(O:Nat->Nat->Prop)(gs hs:List Nat)(tv:Value)(W:World):Prop where
 lw:Lw b st.S gs st.rs X W
 blk:aF W wb #[ptr b.B,tv] 118
 row:W.ownsRow b.w0.heap.size 111 1 tv hs.length (hs.map ptr)
 ln:hs.length=st.ts.length
 th:∀i h t,hs[i]? = some h->st.ts[i]? = some t->Ta gs b.w0.heap.size (O i) i h t W
 xw:X wb
 xt:∀j,tv.ownBlock=some j->X j
 xo:∀i j,O i j->X j/\j≠wb/\tv.ownBlock≠some j
 od:∀i k j,O i j->O k j->i=k
 tw:tv.ownBlock≠some wb
theorem Wd.act(H:Wd b wb st X OO gs hs tv W)(h1:Lw b S' gs XA X w')(h2:ar (L8 b X) W w'):Wd b wb ⟨S',XA,st.ts⟩ X OO gs hs tv w' :=
 {lw:=h1,blk:=H.blk.only h2 λe=>e.2 H.xw,row:=bf H.row λg e=>h2.block g (H.row.lt g e).2 λk=>k.2 (H.xt g e),ln:=H.ln
  th:=λi h t hi ht=>(H.th i h t hi ht).keep h2 λj hj e=>e.2 (H.xo i j hj).1
  xw:=H.xw,xt:=H.xt,xo:=H.xo,od:=H.od,tw:=H.tw }
theorem Wd.next(H:Wd b wb st X OO gs hs tv W)(hb:Below W.heap.size W w'):Wd b wb st X OO gs hs tv w' :=
 {lw:=H.lw.next hb,blk:=H.blk.next hb,row:=bf H.row λg e=>hb.block g (H.row.lt g e).2,ln:=H.ln
  th:=λi h t hi ht=>(H.th i h t hi ht).keep (ar.aS (O:=λ_=>False) hb) λ_ _ e=>e
  xw:=H.xw,xt:=H.xt,xo:=H.xo,od:=H.od,tw:=H.tw }
theorem Wd.turn(H:Wd b wb st X OO gs hs tv W){N:Nat->Prop}{l:List Nat}(hi:hs[i]? = some h)(h1:Lw b S' (gs++l) XA (λj=>X j\/N j) w')(h2:ar (λj=>L8 b X j\/OO i j) W w')(hN:∀j,N j->W.heap.size<=j)
  (h3:Ta (gs++l) b.w0.heap.size (λj=>OO i j\/N j) i h t' w'):Wd b wb ⟨S',XA,st.ts.set i t'⟩ (λj=>X j\/N j) (λk j=>OO k j\/k=i/\N j) (gs++l) hs tv w':=by
 have hx:∀j,X j->j<W.heap.size:=λj hj=>(H.lw.xx j hj).2
 have nx:∀j,N j->¬X j:=λj hj e=>by have:=hN j hj;have:=hx j e;omega
 refine { lw:=h1,blk:=H.blk.only h2 (λe=>e.elim (λe=>e.2 H.xw) λe=>(H.xo i _ e).2.1 rfl),row:=bf H.row λg e=>h2.block g (H.row.lt g e).2 λk=>k.elim (λk=>k.2 (H.xt g e)) λk=>(H.xo i g k).2.2 e,ln:=by simp[H.ln],th:=λk g u hk hu=>?_,xw:=.inl H.xw,xt:=λj hj=>.inl (H.xt j hj),xo:=λk j hj=>?_,od:=λk m j p1 p2=>?_,tw:=H.tw }
 ·by_cases e:k=i
  ·subst e;rw[hi]at hk;obtain rfl:=Option.some.inj hk;rw[List.getElem?_set_self (by have:=(List.getElem?_eq_some_iff.1 hi).1;rw[← H.ln];exact this)]at hu;obtain rfl:=Option.some.inj hu;obtain⟨⟨A,c,PA,pc,R,k1,k2,k3,k4,k5⟩,oh,rl,ok,sz⟩:=h3;exact⟨⟨A,c,PA,pc,R,k1,k2,k3,λj hj=>⟨(k4 j hj).1.imp id λe=>⟨rfl,e⟩,(k4 j hj).2⟩,λj hj=>⟨(k5 j hj).1.imp id λe=>⟨rfl,e⟩,(k5 j hj).2⟩⟩,oh.imp id λe=>⟨rfl,e⟩,rl,ok,sz⟩
  ·rw[List.getElem?_set_ne (λh=>e h.symm)]at hu;have h4:=((H.th k g u hk hu).keep h2 λj hj k'=>k'.elim (λk'=>k'.2 (H.xo k j hj).1) λk'=>e (H.od k i j hj k')).more l;obtain⟨⟨A,c,PA,pc,R,k1,k2,k3,k4,k5⟩,oh,rl,ok,sz⟩:=h4;exact⟨⟨A,c,PA,pc,R,k1,k2,k3,λj hj=>⟨.inl (k4 j hj).1,(k4 j hj).2⟩,λj hj=>⟨.inl (k5 j hj).1,(k5 j hj).2⟩⟩,.inl oh,rl,ok,sz⟩
 ·rcases hj with hj | ⟨_,hj⟩
  ·exact⟨.inl (H.xo k j hj).1,(H.xo k j hj).2⟩
  ·exact⟨.inr hj,λe=>nx j hj (e▸H.xw),λe=>nx j hj (H.xt j e)⟩
 ·rcases p1 with p1 | ⟨e1,p1⟩
  ·rcases p2 with p2 | ⟨_,p2⟩
   ·exact H.od k m j p1 p2
   ·exact absurd (H.xo k j p1).1 (nx j p2)
  ·rcases p2 with p2 | ⟨e2,p2⟩
   ·exact absurd (H.xo m j p2).1 (nx j p1)
   ·rw[e1,e2]
def Kept(X X':Nat->Prop)(OO OO':Nat->Nat->Prop)(W w':World):Prop:=∀p,X p->(∀i,¬OO i p)->X' p/\(∀i,¬OO' i p)/\w'.heap[p]? = W.heap[p]?
def Aft(b:Bs)(wb:Nat)(st:Ws)(X:Nat->Prop)(OO:Nat->Nat->Prop)(hs:List Nat)(tv:Value)(W w':World):Prop:=∃X' OO' gs',Wd b wb st X' OO' gs' hs tv w'/\Kept X X' OO OO' W w'
theorem Kept.refl:Kept X X OO OO W W:=λp h1 h2=>⟨h1,h2,rfl⟩
theorem Kept.act(h:ar (L8 b X) W w')(hx:∀j,X j->j<W.heap.size):Kept X X OO OO W w':=λp h1 h2=>⟨h1,h2,h.block p (hx p h1) λe=>e.2 h1⟩
theorem Kept.turn{N:Nat->Prop}(h:ar (λj=>L8 b X j\/OO i j) W w')(hx:∀j,X j->j<W.heap.size)(hN:∀j,N j->W.heap.size<=j):Kept X (λj=>X j\/N j) OO (λk j=>OO k j\/k=i/\N j) W w' :=
 λp h1 h2=>⟨.inl h1,λk e=>e.elim (h2 k) λe=>by have:=hN p e.2;have:=hx p h1;omega,h.block p (hx p h1) λe=>e.elim (λe=>e.2 h1) (h2 i)⟩
theorem aaK(H:Wd b wb st X OO gs hs tv W){n:Int}(hn:n<0\/(hs.length:Int)<=n):Calls Tryz.prog 23 #[ptr wb,.int .i64 n] W λe w'=>e = .returned (.bool false)/\w'=W:=by
 go_in;go_wp2_with fail;refine(aaY H.blk H.row hn).mono ?_;rintro e w1 ⟨rfl,rfl⟩;go_wp2_with fail;go_ret;exact⟨rfl,rfl⟩
theorem aa5(H:Wd b wb st X OO gs hs tv W)(hi:hs[i]? = some h)(ht:st.ts[i]? = some t)(hr:t.run=none):Calls Tryz.prog 23 #[ptr wb,.int .i64 (i:Int)] W λe w'=>e = .returned (.bool false)/\w'=W:=by
 have HTH:=hid (aao H.blk H.row hi);obtain⟨A,c,PA,pc,R,h1,-⟩:=(H.th i h t hi ht).ex;have y1:W.cell? ⟨h,1,none⟩=some (.pointer none):=(h1.cell 1 _ rfl).trans (by rw[hr];rfl);clear H h1 hi ht hr;go_in;go_wp2_with fail;refine HTH.out.mono ?_;rintro e w1 ⟨rfl,rfl⟩;go_wp2_with fail;refine(aby _).mono ?_;rintro e w1 ⟨rfl,rfl⟩;go_wp2_with fail;go_ret;exact⟨rfl,rfl⟩
theorem abh(H:Wd b wb st X OO gs hs tv W)(he:s_ b.w0)(hi:hs[i]? = some h)(ht:st.ts[i]? = some t){k:Nat}{r:Rn}(hr:t.run=some k)(hk:st.rs[k]? = some r)(hA:r.at_ ≠ .done->Hr r.at_ b.C b.w0)(hm:Rm 12 st.S)(hF:Fit b.C st.S r) :
  Calls Tryz.prog 23 #[ptr wb,.int .i64 (i:Int)] W λe w'=>e = .returned (.bool (aa0 b.C st i t k r).1)/\Aft b wb (aa0 b.C st i t k r).2 X OO hs tv W w':=by
 have hT:=H.th i h t hi ht
 obtain⟨A,c,PA,pc,R,h1,h2,h3,h4,h5⟩:=hT.ex
 obtain⟨g,hg⟩:∃g,gs[k]? = some g:=⟨_,List.getElem?_eq_getElem (hT.rl k hr)⟩
 have hv:aaZ gs t.run=ptr g:=by rw[hr];simp[aaZ,List.getD,hg]
 rw[hv]at h1
 have HTH:=hid (aao H.blk H.row hi)
 have Kw:=hid (H.lw.stepOf hg hk hA hm hF he.pg)
 have HH:=hid H
 have HX:Hid (X h/\(∀j,R j->X j/\j≠h)/\(∀j,(Value.slice PA t.rep.length pc).ownBlock=some j->X j/\j≠h/\¬R j)/\(∀j,R j->OO i j)/\(∀j,(Value.slice PA t.rep.length pc).ownBlock=some j->OO i j)/\OO i h) :=
  ⟨(H.xo i h hT.oh).1,λj hj=>⟨(H.xo i j (h5 j hj).1).1,(h5 j hj).2⟩,λj hj=>⟨(H.xo i j (h4 j hj).1).1,(h4 j hj).2⟩,λj hj=>(h5 j hj).1,λj hj=>(h4 j hj).1,hT.oh⟩
 have HG:=hid hg
 have HK:=hid hk
 have HI:=hid hi
 have HTT:=hid ht
 have HTA:=hid hT
 have HB:=hid h1
 have HR:=hid h2
 have P8:=hid h3
 have HE:=hid he
 have VY:Hid (t.rep.length+t.rest.length+1<=1000000):=by show _<=_;have:=hT.sz;rw[hr]at this;simpa using this
 have y1:=h1.cell 1 _ rfl
 obtain⟨s1,r1,hs1⟩:∃s1 r1,Lf b.C st.S r=(s1,r1):=⟨_,_,rfl⟩
 have HS1:Hid (Lf b.C st.S r=(s1,r1)):=hs1
 rw[hs1]at Kw
 have hW:∀x,X x->x<W.heap.size:=λx hx=>(H.lw.xx x hx).2
 have HXW:=hid hW
 clear H hi ht hr hk hA hm hF hT h1 h2 h3 h4 h5 hg hv he hs1 hW
 unfold aa0
 rw[HS1.out]
 cases hc:mD st.S r with
 | false =>
  rw[hc]at Kw
  rw[if_neg zs]
  go_in
  go_wp2_with fail
  refine HTH.out.mono ?_
  rintro e w1 ⟨rfl,rfl⟩
  go_wp2_with fail
  refine Kw.out.mono ?_
  rintro e w2 ⟨rfl,hl,ho⟩
  have HQ:Hid (Wd b wb st X OO gs hs tv w2/\Kept X X OO OO w1 w2):=by
   refine⟨?_,Kept.act ho HXW.out⟩;have e:=HS1.out;unfold Lf at e;rw[hc]at e;simp at e;obtain⟨rfl,rfl⟩:=e;rw[L9 HK.out]at hl;exact HH.out.act hl ho
  clear hl ho
  go_wp2_with fail
  go_ret
  exact⟨rfl,_,_,_,HQ.out⟩
 | true =>
  rw[hc]at Kw
  rw[if_pos rfl]
  dsimp only
  generalize hres:(if r1.en=true then _ else _:Bool×Ws)=res
  go_in
  go_wp2_with fail
  refine HTH.out.mono ?_
  rintro e w1 ⟨rfl,rfl⟩
  go_wp2_with fail
  refine Kw.out.mono ?_
  rintro e w2 ⟨rfl,hl,ho⟩
  have hk1:(st.rs.set k r1)[k]? = some r1:=List.getElem?_set_self (List.getElem?_eq_some_iff.1 HK.out).1
  have HD:=hid (hl.done HG.out hk1)
  have HL:=hid hl
  have HO:=hid ho
  have dG:=hid (HB.out.only ho λe=>e.2 HX.out.1)
  have y2:=dG.out.cell 1 _ rfl
  clear hl ho hk1 y1 Kw HTH
  cases iS:r1.en with
  | false =>
   rw[iS,if_neg zs]at hres
   subst hres
   have qI:eU r1 = .tuple #[.agg (ou 0 0 0),.bool false]:=by unfold eU;rw[iS];rfl
   rw[qI]at HD
   clear qI
   go_wp2_with fail
   refine HD.out.mono ?_
   rintro e w3 ⟨rfl,hb⟩
   have HQ:Hid (Wd b wb ⟨s1,st.rs.set k r1,st.ts⟩ X OO gs hs tv (w3.alloc (.cells (ou 0 0 0) 49))/\Kept X X OO OO w1 (w3.alloc (.cells (ou 0 0 0) 49))):=⟨((HH.out.act HL.out HO.out).next hb).next (ae _ _),Kept.act ((HO.out.next hb).next (ae _ _)) HXW.out⟩
   clear hb
   go_wp2_with fail
   go_ret
   exact⟨rfl,_,_,_,HQ.out⟩
  | true =>
   rw[iS,if_pos rfl]at hres
   have abi:=hid hres
   clear hres
   have qI:eU r1 = .tuple #[.agg (ou r1.e r1.v r1.n),.bool true]:=by unfold eU;rw[iS];rfl
   rw[qI]at HD
   clear qI iS
   go_wp2_with fail
   refine HD.out.mono ?_
   rintro e w3 ⟨rfl,hb⟩
   have hbb:=hb.trans ((ae w3 (.cells (ou r1.e r1.v r1.n) 49)).mono hb.size)
   have HL4:=hid (HL.out.next hbb)
   have HO4:=hid (HO.out.next hbb)
   have X9:=hid (aF.box w3 (ou r1.e r1.v r1.n) 49)
   have HGY:Hid (w1.heap.size<=w3.heap.size):=Nat.le_trans HO.out.size hb.size
   clear hb hbb HL HO dG HD y2
   go_wp2_with fail
   generalize w3.alloc (.cells #[.int .i64 r1.e,.int .i64 r1.v,.int .i64 r1.n] 49)=w4 at *
   generalize w3.heap.size=gy at *
   have rL:=hid (HB.out.only HO4.out λe=>e.2 HX.out.1)
   have VI:=hid (HR.out.only HO4.out λj hj e=>e.2 (HX.out.2.1 j hj).1)
   have abQ:Hid (w4.ownsRow b.w0.heap.size 49 3 (.slice PA t.rep.length pc) t.rep.length (rpl t.rep)):=bf P8.out λg e=>HO4.out.block g (HXW.out g (HX.out.2.2.1 g e).1) λk=>k.2 (HX.out.2.2.1 g e).1
   clear HB HR P8
   refine iz (S:=λw'=>w'.cell? ⟨h,3,none⟩=some (.slice PA t.rep.length pc)/\w'.cell? ⟨gy,0,none⟩=some (.int .i64 r1.e)/\w'.cell? ⟨gy,1,none⟩=some (.int .i64 r1.v)/\w'.cell? ⟨gy,2,none⟩=some (.int .i64 r1.n)/\Hid (ar (λj=>(Value.slice PA t.rep.length pc).ownBlock=some j) w4 w')) 10 zk (⟨rL.out.cell 3 _ rfl,X9.out.cell 0 _ rfl,X9.out.cell 1 _ rfl,X9.out.cell 2 _ rfl,hid (ar.aS ((Below.refl _ w4).drew))⟩) (λhH=>?_)
   refine eS 0 30 hH ?_
   refine eS 1 31 hH ?_
   refine eS 2 32 hH ?_
   refine eS 3 33 hH ?_
   refine eS 4 34 hH ?_
   try simp only[zq]
   refine dU (i:=5) (oi:=⟨some 35,_,_,_,_,_⟩) (v:=?v6) rfl zk zk zk zk zh (Or.inl ⟨rfl,?c6⟩) hH ?r6
   case c6=>(intro w' hS;obtain⟨h0,h1,h2,h3,h4⟩:=hS;go_simp;(try with_reducible rfl))
   try simp only[zq]
   refine bu (rs:=[6]) zk zs (eW.cons rfl (λK hK=>?_) (eW.nil))
   go_simp
   have VN:Below w4.heap.size w4 ((w4.alloc (.cells #[.int .i64 r1.e,.int .i64 r1.v,.int .i64 r1.n] 49)).drew):=(ae w4 _).drew
   have HN5:Hid (aF ((w4.alloc (.cells #[.int .i64 r1.e,.int .i64 r1.v,.int .i64 r1.n] 49)).drew) w4.heap.size (ou r1.e r1.v r1.n) 49):=(aF.box w4 (ou r1.e r1.v r1.n) 49).drew
   have Ps:=hid (HL4.out.next VN)
   have Dw:=hid (rL.out.next VN)
   have UG:=hid (VI.out.only (ar.aS (O:=λ_=>False) VN) λ_ _ e=>e)
   have ZF:=hid (X9.out.next VN)
   have abZ:=hid (bf abQ.out λg e=>VN.block g (abQ.out.lt g e).2)
   have HO5:=hid (HO4.out.next VN)
   refine hK.out _ _ (⟨Dw.out.cell 3 _ rfl,ZF.out.cell 0 _ rfl,ZF.out.cell 1 _ rfl,ZF.out.cell 2 _ rfl,hid (ar.aS VN)⟩) (λhH=>?_)
   clear hK K
   generalize ((w4.alloc (.cells #[.int .i64 r1.e,.int .i64 r1.v,.int .i64 r1.n] 49)).drew)=w5 at *
   generalize w4.heap.size=gn at *
   clear VN HL4 rL VI abQ HO4
   try simp only[zq]
   refine bu (rs:=[7]) zk zs (eW.cons rfl (λK hK=>?_) (eW.nil))
   refine abg rfl (.tmp 34) (.tmp 36) 64 49 rfl Tryz.underlying64 _ 3 24 aaC rfl zo zo b.w0.heap.size Ps.out.size _ t.rep.length (rpl t.rep) rfl abZ.out gn 1 (ou r1.e r1.v r1.n).toList rfl rfl (λj u hu=>HN5.out.cell j u (by rw[← Array.getElem?_toList];exact hu)) (by intro u hu;simp at hu;rcases hu with rfl | rfl | rfl <;> rfl) (t.rep.length+1) rfl (by have:=VY.out;omega) ?_
   intro A2 c2 w6 abJ hg Yu
   change K (Act.put _ (some 37) _) _
   have ho6:ar (λj=>(Value.slice PA t.rep.length pc).ownBlock=some j) w5 w6:=ar.grown hg.out λk e=>e
   have Zi:=hid (Ps.out.turn (X':=λj=>X j\/(Value.slice A2 (t.rep.length+1) c2).ownBlock=some j/\w5.heap.size<=j) (ho6.mono λj e=>(HX.out.2.2.1 j e).1) λj hj=>hj.imp id λe=>⟨e.2,(abJ.out.lt j e.1).2⟩)
   have MO:Hid (w1.heap.size<=w5.heap.size):=HO5.out.size
   have ZI:=hid (Dw.out.only ho6 λe=>(HX.out.2.2.1 h e).2.1 rfl)
   have HR6:=hid (UG.out.only ho6 λj hj e=>(HX.out.2.2.1 j e).2.2 hj)
   have HY6:=hid (ZF.out.only ho6 λe=>by have:=HXW.out gy (HX.out.2.2.1 gy e).1;have:=HGY.out;omega)
   have HO6:Hid (ar (λj=>L8 b X j\/(Value.slice PA t.rep.length pc).ownBlock=some j) w1 w6):=(HO5.out.mono λj e=>.inl e).trans ho6 λj e=>.inl (.inr e)
   clear Ps Dw UG ZF abZ
   refine hK.out _ _ (⟨ZI.out.cell 3 _ rfl,HY6.out.cell 0 _ rfl,HY6.out.cell 1 _ rfl,HY6.out.cell 2 _ rfl,hid (hH.2.2.2.2.out.trans ho6 λj e=>.inl e)⟩) (λhH=>?_)
   clear hK K
   clear ho6 hg
   try simp only[zq]
   refine bu (rs:=[8]) zk zs (eW.cons rfl (λK hK=>?_) (eW.nil))
   go_simp
   refine hK.out _ _ (hH) (λhH=>?_)
   clear hK K
   try simp only[zq]
   refine eS 9 39 hH ?_
   try simp only[zq]
   refine bu (rs:=[10]) zk zs (eW.end_ rfl (λK hK=>?_))
   have x3:=ZI.out.cell 3 _ rfl
   have f3:=ZI.out.frozen 3
   go_simp
   clear x3 f3
   refine hK.out _ _ ?_
   clear hK K
   try simp only[zq]
   refine gm zk ?_ _
   have ho7:ar (· = h) w6 (w6.setCell ⟨h,3,none⟩ (.slice A2 (t.rep.length+1) c2)):=ar.st (LL w6 h) 3 _
   have hh1:h<w1.heap.size:=HXW.out h HX.out.1
   have Sr:Hid (∀j,(Value.slice A2 (t.rep.length+1) c2).ownBlock=some j->(OO i j/\X j\/(Value.slice A2 (t.rep.length+1) c2).ownBlock=some j/\w5.heap.size<=j)/\j≠h/\¬R j):=λj hj=>by
    have hs5:=MO.out
    rcases Yu.out with e | ⟨g2,e,e2,e3⟩
    ·rw[hj]at e;exact⟨.inl ⟨HX.out.2.2.2.2.1 j e.symm,(HX.out.2.2.1 j e.symm).1⟩,(HX.out.2.2.1 j e.symm).2⟩
    ·have:g2=j:=Option.some.inj (e.symm.trans hj);subst this;exact⟨.inr ⟨hj,e2⟩,by omega,λk=>by have:=HXW.out _ (HX.out.2.1 _ k).1;omega⟩
   have HL7:=hid (Zi.out.turn (X':=λj=>X j\/(Value.slice A2 (t.rep.length+1) c2).ownBlock=some j/\w5.heap.size<=j) (ho7.mono λj e=>by rw[show j=h from e];exact .inl HX.out.1) λj hj=>.inl hj)
   have HB7:=hid (ZI.out.set' 3 (.slice A2 (t.rep.length+1) c2) (cs':=thc (i:Int) (ptr g) A t.rest.length c (.slice A2 (t.rep.length+1) c2)) rfl)
   have HR7:=hid (HR6.out.only ho7 λj hj e=>(HX.out.2.1 j hj).2 e)
   have abK:=hid (bf abJ.out λg2 e=>ho7.block g2 (abJ.out.lt g2 e).2 (Sr.out g2 e).2.1)
   have HO7:Hid (ar (λj=>L8 b X j\/OO i j) w1 (w6.setCell ⟨h,3,none⟩ (.slice A2 (t.rep.length+1) c2))):=(HO6.out.mono λj e=>e.imp id λe=>HX.out.2.2.2.2.1 j e).trans ho7 λj e=>.inl (.inr (by rw[show j=h from e];exact HX.out.2.2.2.2.2))
   clear ho7 hh1 Zi ZI HR6 abJ HO6 HY6
   generalize w6.setCell ⟨h,3,none⟩ (.slice A2 (t.rep.length+1) c2)=w7 at *
   have z0:=(HH.out.blk.only HO7.out λe=>e.elim (λe=>e.2 HH.out.xw) λe=>(HH.out.xo i _ e).2.1 rfl).cell 0 _ rfl
   obtain⟨rs1,ab0⟩:∃x,st.rs.set k r1=x:=⟨_,rfl⟩
   rw[ab0]at HL7 abi
   obtain⟨aan,abR⟩:∃x,t.rep++[(r1.e,r1.v,r1.n)]=x:=⟨_,rfl⟩
   have WE:Hid (t.rep.length+1=aan.length/\rpl t.rep++(ou r1.e r1.v r1.n).toList=rpl aan):=by subst abR;exact⟨by simp,by simp[rpl]⟩
   have QJ:Hid (aan.length=1+t.rep.length):=by show _=_;rw[← WE.out.1];omega
   generalize t.rep.length+1=m2 at *
   obtain rfl:m2=aan.length:=WE.out.1
   rw[abR]at abi
   have xE:=hid HTA.out.ok
   obtain⟨rest,abE⟩:∃x,t.rest=x:=⟨_,rfl⟩
   rw[abE]at HB7 HR7 xE VY
   clear ab0 abR
   rcases rest with _ | ⟨x,xs⟩
   ·have e:aav b.C i rs1 { t with rep:=aan }=(rs1,⟨none,[],aan⟩):=by unfold aav;rw[show({ t with rep:=aan }:Th).rest=[]from abE]
    rw[e]at abi;clear e;go_wp2_with fail;refine(abf HB7.out).mono ?_;rintro e w8 ⟨rfl,rfl⟩;have MQ:ar (· = h) w7 (w7.setCell ⟨h,1,none⟩ (.pointer none)):=ar.st (LL w7 h) 1 _;have ho9:ar (λj=>L8 b X j\/OO i j) w1 (w7.setCell ⟨h,1,none⟩ (.pointer none)):=HO7.out.trans MQ λj e=>.inl (.inr (by rw[show j=h from e];exact HX.out.2.2.2.2.2))
    have HQ:Hid (Wd b wb ⟨s1,rs1,st.ts.set i ⟨none,[],aan⟩⟩ (λj=>X j\/(Value.slice A2 aan.length c2).ownBlock=some j/\w5.heap.size<=j) (λk j=>OO k j\/k=i/\(Value.slice A2 aan.length c2).ownBlock=some j/\w5.heap.size<=j) (gs++[]) hs tv (w7.setCell ⟨h,1,none⟩ (.pointer none))/\Kept X (λj=>X j\/(Value.slice A2 aan.length c2).ownBlock=some j/\w5.heap.size<=j) OO (λk j=>OO k j\/k=i/\(Value.slice A2 aan.length c2).ownBlock=some j/\w5.heap.size<=j) w1 (w7.setCell ⟨h,1,none⟩ (.pointer none))) :=
     ⟨HH.out.turn (N:=λj=>(Value.slice A2 aan.length c2).ownBlock=some j/\w5.heap.size<=j) (l:=[]) HI.out
      (by rw[List.append_nil];exact HL7.out.turn (X':=λj=>X j\/(Value.slice A2 aan.length c2).ownBlock=some j/\w5.heap.size<=j) (MQ.mono λj e=>by rw[show j=h from e];exact .inl HX.out.1) λj hj=>.inl hj)
      ho9 (λj hj=>Nat.le_trans MO.out hj.2)
      (abC rfl rfl rfl (HB7.out.set' 1 (.pointer none) rfl) (HR7.out.only MQ λj hj e=>(HX.out.2.1 j hj).2 e) (WE.out.2▸bf abK.out λg2 e=>MQ.block g2 (abK.out.lt g2 e).2 (Sr.out g2 e).2.1)
       (λj hj=>⟨(Sr.out j hj).1.imp (λe=>e.1) id,(Sr.out j hj).2⟩) (λj hj=>⟨.inl (HX.out.2.2.2.1 j hj),(HX.out.2.1 j hj).2⟩) (.inl HX.out.2.2.2.2.2) (λk hk=>by cases hk) (λx hx=>absurd hx List.not_mem_nil) (by have:=VY.out;have:=QJ.out;simp at *;omega)),Kept.turn ho9 HXW.out λj hj=>Nat.le_trans MO.out hj.2⟩
    clear MQ ho9;go_wp2_with fail;go_ret;rw[← abi.out];exact⟨rfl,_,_,_,HQ.out⟩
   ·have e:aav b.C i rs1 { t with rep:=aan }=(rs1++[sZ b.C (i:Int) (aan.length:Int) x.kd x.n x.bs x.s.data.toList],⟨some rs1.length,xs,aan⟩):=by unfold aav;rw[show({ t with rep:=aan }:Th).rest=x::xs from abE]
    rw[e]at abi;clear e;go_wp2_with fail;refine(aaB HL7.out HE.out HB7.out (.inl HX.out.1) HR7.out (λj hj=>⟨.inl (HX.out.2.1 j hj).1,(HX.out.2.1 j hj).2⟩) (xE.out x (List.mem_cons_self ..)) zo).mono ?_;rintro e w8 ⟨g2,A3,c3,rfl,hq⟩;have ho9:ar (λj=>L8 b X j\/OO i j) w1 w8:=HO7.out.trans hq.Gs λj e=>e.elim (λe=>.inl (.inl ⟨e.1,λk=>e.2 (.inl k)⟩)) λe=>.inl (.inr (by rw[e];exact HX.out.2.2.2.2.2))
    have HQ:Hid (Wd b wb ⟨s1,rs1++[sZ b.C (i:Int) (aan.length:Int) x.kd x.n x.bs x.s.data.toList],st.ts.set i ⟨some rs1.length,xs,aan⟩⟩ (λj=>X j\/(Value.slice A2 aan.length c2).ownBlock=some j/\w5.heap.size<=j) (λk j=>OO k j\/k=i/\(Value.slice A2 aan.length c2).ownBlock=some j/\w5.heap.size<=j) (gs++[g2]) hs tv w8/\Kept X (λj=>X j\/(Value.slice A2 aan.length c2).ownBlock=some j/\w5.heap.size<=j) OO (λk j=>OO k j\/k=i/\(Value.slice A2 aan.length c2).ownBlock=some j/\w5.heap.size<=j) w1 w8) :=
     ⟨HH.out.turn (N:=λj=>(Value.slice A2 aan.length c2).ownBlock=some j/\w5.heap.size<=j) (l:=[g2]) HI.out hq.lw
      ho9 (λj hj=>Nat.le_trans MO.out hj.2)
      (abC (t:=⟨some rs1.length,xs,aan⟩) (by unfold aaZ;rw[← HL7.out.ln];simp[List.getD]) rfl rfl (hq.blk) hq.rest (WE.out.2▸bf abK.out λg2 e=>hq.Gs.block g2 (abK.out.lt g2 e).2 λk=>k.elim (λk=>k.2 ((Sr.out g2 e).1.imp (λe=>e.2) id)) (Sr.out g2 e).2.1)
       (λj hj=>⟨(Sr.out j (hj)).1.imp (λe=>e.1) id,(Sr.out j (hj)).2⟩) (λj hj=>⟨.inl (HX.out.2.2.2.1 j hj),(HX.out.2.1 j hj).2⟩) (.inl HX.out.2.2.2.2.2) (λk hk=>by injection hk with hk;subst hk;rw[← HL7.out.ln];simp) (λy hy=>xE.out y (List.mem_cons_of_mem _ hy)) (by have:=VY.out;have:=QJ.out;simp at *;omega)),Kept.turn ho9 HXW.out λj hj=>Nat.le_trans MO.out hj.2⟩
    clear hq ho9;go_wp2_with fail;go_ret;rw[← abi.out];exact⟨rfl,_,_,_,HQ.out⟩
end
end Pg
end Go.Proofs.YtbhnbcadgmagpaaGreatDoor
namespace Go.Proofs.YtbhnbcadgmagpaaGreatDoor
open Go.ChangeShapes Go.WideShapes Go.ChangeAt Go.RowKit Go.aN Go.Lib
namespace Pg
open bg (Ms af)
open Me (ptr)
section
variable {b:Bs}{S S':Sh}{gs gs' hs:List Nat}{rs XA:List Rn}{X Z O R:Nat->Prop}{W w w':World}{h i wb B:Nat}{t t':Th}{st:Ws}{tv:Value}{OO:Nat->Nat->Prop}
theorem Ta.idle(H:Ta gs B O i h t W)(hr:t.run=none):W.cell? ⟨h,1,none⟩=some (.pointer none):=by
 obtain⟨A,c,PA,pc,R,h1,-⟩:=H.ex;exact(h1.cell 1 _ rfl).trans (by rw[hr];rfl)
theorem abj(H:Wd b wb st X OO gs hs tv W)(hi:hs[i]? = some h)(ht:st.ts[i]? = some t)(hr:t.run=none):Calls Tryz.prog 25 #[ptr wb,.int .i64 (i:Int)] W λe w'=>e = .returned (.bool true)/\w'=W:=by
 have HTH:=hid (aao H.blk H.row hi);have y1:=(H.th i h t hi ht).idle hr;clear H hi ht hr;go_in;go_wp2_with fail;refine HTH.out.mono ?_;rintro e w1 ⟨rfl,rfl⟩;go_wp2_with (go_in);go_ret;exact⟨rfl,rfl⟩
theorem abk(H:Wd b wb st X OO gs hs tv W)(hi:hs[i]? = some h)(ht:st.ts[i]? = some t)(hr:t.run=none):Calls Tryz.prog 26 #[ptr wb,.int .i64 (i:Int)] W λe w'=>e = .returned (.bool false)/\Below W.heap.size W w':=by
 have HTH:=hid (aao H.blk H.row hi);have y1:=(H.th i h t hi ht).idle hr;clear H hi ht hr;go_in;go_wp2_with fail;refine HTH.out.mono ?_;rintro e w1 ⟨rfl,rfl⟩;go_wp2_with fail;refine(aaW _).mono ?_;rintro e w2 ⟨rfl,hb⟩;have HB:=hid hb;clear hb;go_wp2_with fail;go_ret;exact⟨rfl,HB.out⟩
theorem abl(y1:W.cell? ⟨h,1,none⟩=some (.pointer none)):Calls Tryz.prog 57 #[ptr h] W λe w'=>e = .returned (.bool false)/\w'=W:=by
 go_in;go_wp2_with (go_in);go_ret;exact⟨rfl,rfl⟩
theorem abm(hr:W.ownsRow B 111 1 tv hs.length (hs.map ptr))(ha:∀(k h:Nat),hs[k]? = some h->W.cell? ⟨h,1,none⟩=some (.pointer none)) :
  Calls Tryz.prog 90 #[tv,.func (.func 57) #[] #[]] W λe w'=>e = .returned (.int .i64 (-1))/\w'=W:=by
 have eg:∀args w,(callFunc 57 args).run Tryz.prog w = .ok (.enter 57 args) w:=enters_of Tryz.func57 zk rfl
 obtain⟨A,c,rfl,hc1,hc2⟩:=cO hr
 have HR:=hid hr
 have HA:=hid ha
 clear hr ha
 go_in
 go_wp2_with fail
 go_loopw [5,8] (λ_ i wr=>∃j:Nat,j<=hs.length/\i = .int .i64 (j:Int)/\wr=W) (λ_ i _=>hs.length - (RowKit.intOf i).toNat)
 case atStart=>exact⟨0,by omega,rfl,rfl⟩
 case round =>
  obtain⟨j,hj,rfl,rfl⟩:=hrel;by_cases hlt:j<hs.length
  ·obtain⟨g,hg⟩:∃x,hs[j]? = some x:=⟨_,List.getElem?_eq_getElem hlt⟩;obtain⟨x,c',e,-,-,-,-,h5,-⟩:=pX HR.out (j:=j) (u:=ptr g) (by rw[List.getElem?_map,hg];rfl);injection e with e1 e2 e3;subst e1;subst e3;have HL:=hid (abl (HA.out j g hg));clear hg;go_wp2_with fail;refine HL.out.mono ?_;rintro e w1 ⟨rfl,rfl⟩;go_wp2_with fail;go_roundw
   case rel=>exact⟨j+1,by omega,by go_num,by trivial⟩
   case measure=>simp[RowKit.intOf];omega
  ·obtain rfl:j=hs.length:=zo;go_wp2_with fail;go_ret;exact⟨rfl,rfl⟩
theorem aaQ(hr:W.ownsRow B 111 1 tv hs.length (hs.map ptr))(ha:∀(k h:Nat),hs[k]? = some h->W.cell? ⟨h,1,none⟩=some (.pointer none)) :
  Calls Tryz.prog 56 #[tv,.func (.func 57) #[] #[]] W λe w'=>e = .returned (.bool false)/\w'=W:=by
 have HI:=hid (abm hr ha)
 clear hr ha
 go_in
 go_wp2_with fail
 refine HI.out.mono ?_
 rintro e w1 ⟨rfl,rfl⟩
 go_wp2_with fail
 go_ret
 exact⟨rfl,rfl⟩
theorem abn(H:Wd b wb st X OO gs hs tv W)(ha:∀t∈st.ts,t.run=none):Calls Tryz.prog 27 #[ptr wb] W λe w'=>e = .returned (.bool true)/\w'=W:=by
 have HC:=hid (aaQ H.row λk h hk=>by
  obtain⟨t,ht⟩:∃t,st.ts[k]? = some t:=⟨_,List.getElem?_eq_getElem (by rw[← H.ln];exact(List.getElem?_eq_some_iff.1 hk).1)⟩
  exact(H.th k h t hk ht).idle (ha t (List.mem_of_getElem? ht)))
 have y1:=H.blk.cell 1 _ rfl;clear H ha;go_in;go_wp2_with fail;refine HC.out.mono ?_;rintro e w1 ⟨rfl,rfl⟩;go_wp2_with fail;go_ret;exact⟨rfl,rfl⟩
theorem aaR(H:Wd b wb st X OO gs hs tv W):Calls Tryz.prog 28 #[ptr wb] W λe w'=>e = .returned (.int .i64 (hs.length:Int))/\w'=W:=by
 obtain⟨A,c,rfl,hc1,hc2⟩:=cO H.row;have y1:=H.blk.cell 1 _ rfl;clear H;go_in;go_wp2_with fail;go_ret;exact⟨rfl,rfl⟩
theorem aa1(H:Wd b wb st X OO gs hs tv W):Calls Tryz.prog 30 #[ptr wb] W λe w'=>e = .returned (ptr b.B)/\w'=W:=by
 have y1:=H.blk.cell 0 _ rfl;clear H;go_in;go_wp2_with fail;go_ret;exact⟨rfl,rfl⟩
theorem abL(l:List (Int×Int×Int)):∀u∈rpl l,u.oneCell'=true:=by
 intro u hu;unfold rpl at hu;obtain⟨a,_,h⟩:=List.mem_flatMap.1 hu;simp at h
 rcases h with rfl | rfl | rfl <;> rfl
theorem abS(l:List (Int×Int×Int))(k:Nat)(x:Int×Int×Int)(h:l[k]? = some x):(rpl l)[k*3]? = some (.int .i64 x.1)/\(rpl l)[k*3+1]? = some (.int .i64 x.2.1)/\(rpl l)[k*3+2]? = some (.int .i64 x.2.2):=by
 induction l generalizing k with
 | nil=>simp at h
 | cons y l ih =>
  have e:rpl (y::l)=(ou y.1 y.2.1 y.2.2).toList++rpl l:=rfl
  cases k with
  | zero=>simp at h;subst h;rw[e];exact⟨rfl,rfl,rfl⟩
  | succ k =>
   obtain⟨h0,h1,h2⟩:=ih k (by simpa using h)
   rw[e]
   have q:∀j,((ou y.1 y.2.1 y.2.2).toList++rpl l)[(k+1)*3+j]? = (rpl l)[k*3+j]?:=λj=>by
    rw[List.getElem?_append_right zt];congr 1;simp;omega
   exact⟨(q 0).trans h0,(q 1).trans h1,(q 2).trans h2⟩
theorem aa6(v:Value)(l:List (Int×Int×Int))(w:World)(h:Rd w w.heap.size 3 l.length v (rpl l))(hl:l.length<=1000000000000) :
  Calls Tryz.prog 58 #[v] w λe w'=>∃v,e = .returned v/\Rd w' w'.heap.size 3 l.length v (rpl l)/\Below w.heap.size w w':=by
 obtain⟨A,c,rfl,h1,h2⟩:=h.len
 have heq:=F1 64 49 Tryz.underlying64 A l.length c w
 rcases A with _ | ad
 ·have h0:l=[]:=by
   rcases Nat.eq_zero_or_pos l.length with h0 | h0
   ·exact List.eq_nil_of_length_eq_zero h0
   ·obtain⟨b,off,c2,e,_⟩:=h.at_ h0
    cases e
  subst h0;simp only[Option.isNone_none,List.length_nil]at heq ⊢;clear h h1 h2 hl;go_in;go_wp2_with fail;go_ret;exact⟨_,rfl,Rd.nil _ _ _,Below.refl _ _⟩
 ·have HR:=hid h;simp only[Option.isNone_some]at heq;clear h;go_in;go_wp2_with (at_builtin;(refine yy rfl (.tmp 5) (.tmp 6) 64 49 rfl Tryz.underlying64 (.agg (ou 0 0 0)) 3 24 aaC rfl zo zo rfl l.length c ad (rpl l) rfl HR.out (abL l) hl ?_;intro A' c' w' H1 H2));go_ret;exact⟨_,rfl,Rd.oH H1.out,H2.out⟩
theorem aaw(H:Wd b wb st X OO gs hs tv W)(hi:hs[i]? = some h)(ht:st.ts[i]? = some t):Calls Tryz.prog 29 #[ptr wb,.int .i64 (i:Int)] W λe w'=>∃v,e = .returned v/\Rd w' w'.heap.size 3 t.rep.length v (rpl t.rep)/\Below W.heap.size W w':=by
 have HTH:=hid (aao H.blk H.row hi);have hT:=H.th i h t hi ht;obtain⟨A,c,PA,pc,R,h1,h2,h3,-⟩:=hT.ex;have HC:=hid (aa6 _ t.rep W (Rd.oH h3) (by have:=hT.sz;omega));have y3:=h1.cell 3 _ rfl;clear H hi ht hT h1 h2 h3;go_in;go_wp2_with fail;refine HTH.out.mono ?_;rintro e w1 ⟨rfl,rfl⟩;go_wp2_with fail;refine HC.out.mono ?_;rintro e w2 ⟨v,rfl,h1,h2⟩;obtain⟨A',c',rfl,-,-⟩:=h1.len;have H1:=hid h1;have H2:=hid h2;clear h1 h2;go_wp2_with fail;go_ret;exact⟨_,rfl,H1.out,H2.out⟩
theorem aaD(a b:Value)(ls:List (Int×Int×Int))(w:World)(ha:Rd w w.heap.size 3 ls.length a (rpl ls))(hb:Rd w w.heap.size 3 ls.length b (rpl ls))(hq:∀x∈ls,∀w,(Op.equalIn 10000 49 (.agg (ou x.1 x.2.1 x.2.2)) (.agg (ou x.1 x.2.1 x.2.2))).run Tryz.prog w = .ok true w) :
  Calls Tryz.prog 52 #[a,b] w λe w'=>e = .returned (.bool true)/\∃q,w'=w.drewN q:=by
 obtain⟨A,ca,rfl,hca,Zo⟩:=ha.len
 obtain⟨C,cb,rfl,hcb,Zp⟩:=hb.len
 have HA:=hid ha
 have HB:=hid hb
 have HQ:=hid hq
 clear ha hb hq
 obtain⟨L,hL⟩:∃L,ls.length=L:=⟨_,rfl⟩
 have HL:=hid hL
 rw[hL]at HA HB hca hcb ⊢
 clear hL
 go_in
 go_wp2_with fail
 go_loopw [5] (λi wr=>∃k q:Nat,k<=L/\i = .int .i64 (k:Int)/\wr=w.drewN q) (λi _=>L - (RowKit.intOf i).toNat)
 case atStart=>exact⟨0,0,by omega,rfl,rfl⟩
 case round =>
  obtain⟨k,q,hk,rfl,rfl⟩:=hrel;by_cases hlt:k<L
  ·obtain⟨r,hx⟩:∃r,ls[k]? = some r:=⟨_,List.getElem?_eq_getElem (by rw[HL.out];exact hlt)⟩;obtain⟨x0,x1,x2⟩:=abS ls k r hx;obtain⟨g1,of1,vR,hv1,-,-,-,hc1⟩:=HA.out.at_ zo;obtain⟨g2,of2,cap2,C2,-,-,-,hc2⟩:=HB.out.at_ zo
   cases hv1
   cases C2
   have a0:=hc1 _ _ x0;have a1:=hc1 _ _ x1;have a2:=hc1 _ _ x2;have b0:=hc2 _ _ x0;have b1:=hc2 _ _ x1;have b2:=hc2 _ _ x2;rw[← Nat.add_assoc]at a1 a2 b1 b2;have hEQ:=HQ.out r (List.mem_of_getElem? hx);clear hc1 hc2 hx x0 x1 x2;go_wp2_with fail
   go_quiet (fail)
   go_wp2_with fail;go_roundw
   case rel=>exact⟨k+1,_,by omega,by go_num,rfl⟩
   case measure=>simp[RowKit.intOf];omega
  ·obtain rfl:k=L:=zo;go_wp2_with fail;go_ret;exact⟨rfl,q,rfl⟩
end
end Pg
end Go.Proofs.YtbhnbcadgmagpaaGreatDoor
namespace Go.Proofs.YtbhnbcadgmagpaaGreatDoor
open Go.ChangeShapes Go.WideShapes Go.ChangeAt Go.RowKit Go.aN Go.Lib
namespace Pg
open bg (Ms af)
open aE (R)
open Me (ptr)
section
variable {W w w':World}
theorem abo(A:Option Addr)(l c:Nat)(hl:l<=256)(W:World):Calls Tryz.prog 126 #[.slice A l c] W λe w'=>e = .returned (.bool false)/\w'=W:=by
 have d0:decide ((l:Int)>256)=false:=zt;go_in;go_wp2_with fail;go_ret;exact⟨rfl,rfl⟩
def Few(w:World)(bt off n:Nat):Prop:=∀k,k<n->∃A l c,w.cell? ⟨bt,off+k,none⟩=some (.slice A l c)/\l<=256
theorem abp{bt off n c:Nat}(hf:Few W bt off n)(hc:n<=c)(hm:c<=9223372036854775807) :
  Calls Tryz.prog 184 #[.slice (some ⟨bt,off,none⟩) n c,.func (.func 126) #[] #[]] W λe w'=>e = .returned (.int .i64 (-1))/\w'=W:=by
 have eg:∀args w,(callFunc 126 args).run Tryz.prog w = .ok (.enter 126 args) w:=enters_of Tryz.func126 zk rfl
 have HF:=hid hf
 clear hf
 go_in
 go_wp2_with fail
 go_loopw [5,8] (λ_ i wr=>∃j:Nat,j<=n/\i = .int .i64 (j:Int)/\wr=W) (λ_ i _=>n - (RowKit.intOf i).toNat)
 case atStart=>exact⟨0,by omega,rfl,rfl⟩
 case round =>
  obtain⟨j,hj,rfl,rfl⟩:=hrel;by_cases hlt:j<n
  ·obtain⟨A,l,c',h5,hl⟩:=HF.out j hlt;have HL:=hid (abo A l c' hl);clear hl;go_wp2_with fail;refine(HL.out _).mono ?_;rintro e w1 ⟨rfl,rfl⟩;go_wp2_with fail;go_roundw
   case rel=>exact⟨j+1,by omega,by go_num,by trivial⟩
   case measure=>simp[RowKit.intOf];omega
  ·obtain rfl:j=n:=zo;go_wp2_with fail;go_ret;exact⟨rfl,rfl⟩
theorem aaS{bt off n c:Nat}(hf:Few W bt off n)(hc:n<=c)(hm:c<=9223372036854775807) :
  Calls Tryz.prog 125 #[.slice (some ⟨bt,off,none⟩) n c,.func (.func 126) #[] #[]] W λe w'=>e = .returned (.bool false)/\w'=W:=by
 have HI:=hid (abp hf hc hm)
 clear hf
 go_in
 go_wp2_with fail
 refine HI.out.mono ?_
 rintro e w1 ⟨rfl,rfl⟩
 go_wp2_with fail
 go_ret
 exact⟨rfl,rfl⟩
theorem aa7{bt off n c:Nat}(hf:Few W bt off n)(hc:n<=c)(hm:c<=9223372036854775807)(hn:n<=64) :
  Calls Tryz.prog 88 #[.slice (some ⟨bt,off,none⟩) n c] W λe w'=>e = .returned (.bool false)/\w'=W:=by
 have HI:=hid (aaS hf hc hm)
 have d0:decide ((n:Int)>64)=false:=zt
 clear hf
 go_in
 go_wp2_with fail
 refine HI.out.mono ?_
 rintro e w1 ⟨rfl,rfl⟩
 go_wp2_with fail
 go_ret
 exact⟨rfl,rfl⟩
theorem aa8(W:World):Calls Tryz.prog 128 #[.slice none 0 0] W λe w'=>e = .returned (.slice none 0 0)/\w'=W:=by
 have heq:=F1 27 5 Tryz.underlying27 none 0 0 W;simp only[Option.isNone_none]at heq;go_in;go_wp2_with fail;go_ret;exact⟨rfl,rfl⟩
theorem abM:(Tryz.prog.info? 39).map (λi=>(i.zero,i.size,i.bytes))=some (some (.agg (I7 0 0 none 0 0 ByteArray.empty)),4,56):=zk
structure One(w:World)(g:Nat)(kd n:Int)(s:ByteArray)(W:World):Prop where
 ex:∃cur,aF W g cur 39/\cur[0]? = some (.int .i64 kd)/\cur[1]? = some (.int .i64 n)/\cur[2]? = some (.slice none 0 0)/\cur[3]? = some (.string s)
 az:Below w.heap.size w W
 le:w.heap.size<=g
theorem One.set{g:Nat}{kd n:Int}{s:ByteArray}(H:One w g kd n s W):One w g kd n s (W.setCell ⟨g,2,none⟩ (.slice none 0 0)):=by
 obtain⟨cur,h,h0,h1,h2,h3⟩:=H.ex;have hl:2<cur.size:=(Array.getElem?_eq_some_iff.1 h2).1
 exact⟨⟨_,h.set 2 _,by rw[Array.getElem?_setIfInBounds_ne zo];exact h0,by rw[Array.getElem?_setIfInBounds_ne zo];exact h1,by rw[Array.getElem?_setIfInBounds_self_of_lt hl],by rw[Array.getElem?_setIfInBounds_ne zo];exact h3⟩,
  H.az.setCell (p:=⟨g,2,none⟩) H.le _,H.le⟩
theorem One.c2{g:Nat}{kd n:Int}{s:ByteArray}(H:One w g kd n s W):W.cell? ⟨g,2,none⟩=some (.slice none 0 0)/\W.frozen? ⟨g,2,none⟩=false:=by
 obtain⟨cur,h,h0,h1,h2,h3⟩:=H.ex;exact⟨h.cell 2 _ h2,h.frozen 2⟩
theorem aa9{A:Addr}{c:Nat}(kd n:Int)(s:ByteArray)(hr:Rd W W.heap.size 4 1 (.slice (some A) 1 c) (I7 kd n none 0 0 s).toList) :
  Calls Tryz.prog 127 #[.slice (some A) 1 c] W λe w'=>∃x c',e = .returned (.slice (some ⟨x,0,none⟩) 1 c')/\(1<=c'/\c'<=9223372036854775807)/\One W x kd n s w':=by
 have heq:=F1 26 39 Tryz.underlying26 (some A) 1 c W
 simp only[Option.isNone_some]at heq
 have HR:=hid hr
 clear hr
 go_in
 go_wp2_with (at_builtin;(refine yy rfl (.tmp 5) (.tmp 6) 26 39 rfl Tryz.underlying26 (.agg (I7 0 0 none 0 0 ByteArray.empty)) 4 56 abM rfl zo zo rfl 1 c A (I7 kd n none 0 0 s).toList rfl HR.out (by intro u hu;simp at hu;rcases hu with rfl | rfl | rfl | rfl <;> rfl) zo ?_;intro A' c' w' H1 H2))
 have h1:=H1.out
 rcases h1.2 with⟨_,h0⟩ | ⟨g,cap,cur,k1,k2,k3,k4,k5,k6,k7⟩
 ·cases h0
 ·injection k1 with k1 _ k1';subst k1;subst k1'
  have q:∀j,j<4->cur[j]? = (I7 kd n none 0 0 s).toList[j]?:=λj hj=>by
   have h8:(cur.toList.take (1*4))[j]? = (I7 kd n none 0 0 s).toList[j]?:=by rw[k7]
   rw[List.getElem?_take,if_pos zo]at h8;rw[← Array.getElem?_toList];exact h8
  have HQ:Hid (One W g kd n s w'):=⟨⟨cur,k3,q 0 zo,q 1 zo,q 2 zo,q 3 zo⟩,H2.out,k2⟩;obtain⟨A',c'',e,r1,r2⟩:=cO h1;injection e with _ _ e;subst e;clear h1 k3 k7 q;go_ret;exact⟨g,_,rfl,⟨r1,r2⟩,HQ.out⟩
theorem abq{A:Addr}{c:Nat}(kd n:Int)(s:ByteArray)(hr:Rd W W.heap.size 4 1 (.slice (some A) 1 c) (I7 kd n none 0 0 s).toList) :
  Calls Tryz.prog 89 #[.slice (some A) 1 c] W λe w'=>∃x c',e = .returned (.slice (some ⟨x,0,none⟩) 1 c')/\(1<=c'/\c'<=9223372036854775807)/\One W x kd n s w':=by
 have HC:=hid (aa9 kd n s hr)
 clear hr
 go_in
 go_wp2_with fail
 refine HC.out.mono ?_
 rintro e w1 ⟨x,c',rfl,⟨hc1,hc2⟩,h1⟩
 have H1:=hid h1
 clear h1 HC
 go_wp2_with fail
 go_loopw [4,9] (λ_ i wr=>∃j:Nat,j<=1/\i = .int .i64 (j:Int)/\Hid (One W x kd n s wr)) (λ_ i _=>1 - (RowKit.intOf i).toNat)
 case atStart=>exact⟨0,by omega,rfl,H1⟩
 case round =>
  obtain⟨j,hj,rfl,HO⟩:=hrel;by_cases hlt:j<1
  ·obtain rfl:j=0:=zo;obtain⟨c2,f2⟩:=HO.out.c2;go_wp2_with fail;refine(aa8 _).mono ?_;rintro e w2 ⟨rfl,rfl⟩;have zj:=hid HO.out.set;go_wp2_with fail;go_roundw
   case rel=>exact⟨1,by omega,by go_num,zj⟩
   case measure=>simp[RowKit.intOf]
  ·obtain rfl:j=1:=zo;go_wp2_with fail;go_ret;exact⟨_,_,rfl,⟨hc1,hc2⟩,HO.out⟩
end
end Pg
end Go.Proofs.YtbhnbcadgmagpaaGreatDoor
namespace Go.Proofs.YtbhnbcadgmagpaaGreatDoor
open Go.ChangeShapes Go.WideShapes Go.ChangeAt Go.RowKit Go.aN Go.Lib
namespace Pg
open bg (Ms af)
open aE (R)
open Me (ptr)
def abN(C:Cf)(st:Ws)(xs:List Ov):Ws:=⟨st.S,(aav C st.ts.length st.rs ⟨none,xs,[]⟩).1,st.ts++[(aav C st.ts.length st.rs ⟨none,xs,[]⟩).2]⟩
def aau(C:Cf)(S:Sh)(xss:List (List Ov)):Ws:=xss.foldl (abN C) ⟨S,[],[]⟩
theorem abr(C:Cf)(S:Sh)(xss:List (List Ov))(xs:List Ov):aau C S (xss++[xs])=abN C (aau C S xss) xs:=by unfold aau;rw[List.foldl_append];rfl
theorem abT(C:Cf)(xss:List (List Ov)):∀st:Ws,(xss.foldl (abN C) st).S=st.S:=by
 induction xss with
 | nil=>exact λ_=>rfl
 | cons x xss ih=>exact λst=>ih _
theorem abF(C:Cf)(S:Sh)(xss:List (List Ov)):(aau C S xss).S=S:=abT C xss _
section
variable {b:Bs}{S S':Sh}{gs gs' hs:List Nat}{rs XA:List Rn}{X N N0:Nat->Prop}{W w w':World}{h wb:Nat}{t:Th}{st:Ws}{tv tv':Value}{OO:Nat->Nat->Prop}
theorem Wd.add(H:Wd b wb st X OO gs hs tv W){l:List Nat}(h1:Lw b st.S (gs++l) XA (λj=>X j\/N j) w')(hN:∀j,N j->W.heap.size<=j)(h2:ar (λj=>L8 b X j\/j=wb\/tv.ownBlock=some j) W w')(h3:aF w' wb #[ptr b.B,tv'] 118)
  (h4:w'.ownsRow b.w0.heap.size 111 1 tv' (hs++[h]).length ((hs++[h]).map ptr)) (h5:Ta (gs++l) b.w0.heap.size N0 hs.length h t w') (h6:∀j,N0 j->N j/\tv'.ownBlock≠some j) (h7:∀j,tv'.ownBlock=some j->tv.ownBlock=some j\/N j) :
  Wd b wb ⟨st.S,XA,st.ts++[t]⟩ (λj=>X j\/N j) (λk j=>OO k j\/k=hs.length/\N0 j) (gs++l) (hs++[h]) tv' w':=by
 have hx:∀j,X j->j<W.heap.size:=λj hj=>(H.lw.xx j hj).2
 have nx:∀j,N j->¬X j:=λj hj e=>by have:=hN j hj;have:=hx j e;omega
 refine { lw:=h1,blk:=h3,row:=h4,ln:=by simp[H.ln],th:=λk g u hk hu=>?_,xw:=.inl H.xw,xt:=λj hj=>(h7 j hj).imp (H.xt j) id,xo:=λk j hj=>?_,od:=λk m j p1 p2=>?_,tw:=λe=>(h7 wb e).elim H.tw λe=>nx wb e H.xw }
 ·rcases zG hk with hk | ⟨rfl,rfl⟩
  ·have PV:=(List.getElem?_eq_some_iff.1 hk).1;rw[List.getElem?_append_left (by rw[← H.ln];exact PV)]at hu
   obtain⟨⟨A,c,PA,pc,R,k1,k2,k3,k4,k5⟩,oh,rl,ok,sz⟩:=((H.th k g u hk hu).keep h2 λj hj e=>by
    rcases e with e | e | e
    ·exact e.2 (H.xo k j hj).1
    ·exact(H.xo k j hj).2.1 e
    ·exact(H.xo k j hj).2.2 e).more l
   exact⟨⟨A,c,PA,pc,R,k1,k2,k3,λj hj=>⟨.inl (k4 j hj).1,(k4 j hj).2⟩,λj hj=>⟨.inl (k5 j hj).1,(k5 j hj).2⟩⟩,.inl oh,rl,ok,sz⟩
  ·rw[List.getElem?_append_right (by rw[H.ln];exact Nat.le_refl _),H.ln,Nat.sub_self]at hu
   obtain rfl:t=u:=by simpa using hu
   obtain⟨⟨A,c,PA,pc,R,k1,k2,k3,k4,k5⟩,oh,rl,ok,sz⟩:=h5;exact⟨⟨A,c,PA,pc,R,k1,k2,k3,λj hj=>⟨.inr ⟨rfl,(k4 j hj).1⟩,(k4 j hj).2⟩,λj hj=>⟨.inr ⟨rfl,(k5 j hj).1⟩,(k5 j hj).2⟩⟩,.inr ⟨rfl,oh⟩,rl,ok,sz⟩
 ·rcases hj with hj | ⟨_,hj⟩
  ·refine⟨.inl (H.xo k j hj).1,(H.xo k j hj).2.1,λe=>?_⟩
   rcases h7 j e with e | e
   ·exact(H.xo k j hj).2.2 e
   ·exact nx j e (H.xo k j hj).1
  ·exact⟨.inr (h6 j hj).1,λe=>nx j (h6 j hj).1 (e▸H.xw),(h6 j hj).2⟩
 ·rcases p1 with p1 | ⟨e1,p1⟩
  ·rcases p2 with p2 | ⟨_,p2⟩
   ·exact H.od k m j p1 p2
   ·exact absurd (H.xo k j p1).1 (nx j (h6 j p2).1)
  ·rcases p2 with p2 | ⟨e2,p2⟩
   ·exact absurd (H.xo m j p2).1 (nx j (h6 j p1).1)
   ·rw[e1,e2]
abbrev op1(x:Int×Int×ByteArray):Ov:=⟨x.1,x.2.1,none,0,0,[],x.2.2⟩
theorem One.rest{g:Nat}{x:Int×Int×ByteArray}{c:Nat}(H:One w g x.1 x.2.1 x.2.2 W)(hc:1<=c/\c<=9223372036854775807):Rest (· = g) (.slice (some ⟨g,0,none⟩) 1 c) [op1 x] W:=by
 obtain⟨cur,h,h0,h1,h2,h3⟩:=H.ex;refine⟨λj hj=>by rw[show j=g from hj];exact h.lt,λw' hs hk=>⟨_,c,rfl,hc.1,by unfold maxLen;omega,λ_=>⟨g,0,rfl,Nat.lt_of_lt_of_le h.lt hs,λi y hy j u hu=>?_⟩,λy hy=>?_⟩⟩
 ·have hi:i=0:=by have:=(List.getElem?_eq_some_iff.1 hy).1;simp at this;omega
  subst hi
  obtain rfl:op1 x=y:=by simpa using hy
  rw[hk ⟨g,0+(0*4+j),none⟩ rfl];have hj:j<4:=(Array.getElem?_eq_some_iff.1 hu).1;rw[show 0+(0*4+j)=j by omega];refine h.cell j u ?_
  match j,hj with
  | 0,_=>rw[h0];exact hu
  | 1,_=>rw[h1];exact hu
  | 2,_=>rw[h2];exact hu
  | 3,_=>rw[h3];exact hu
 ·rw[List.mem_singleton.1 hy];exact bI.empty _ _ _
theorem aa2:(Tryz.prog.info? 111).map (λi=>(i.zero,i.size,i.bytes))=some (some (.pointer none),1,8):=zk
theorem abO{z N:Int}{T:Nat->Int}:(Tryz.prog.info? 24).map (·.size)=some (Au.iT z N T).size:=(by kernel_rfl:(Tryz.prog.info? 24).map (·.size)=some 18)
end
end Pg
end Go.Proofs.YtbhnbcadgmagpaaGreatDoor
namespace Go.Proofs.YtbhnbcadgmagpaaGreatDoor
open Go.ChangeShapes Go.WideShapes Go.ChangeAt Go.RowKit Go.aN Go.Lib
namespace Pg
open bg (Ms af)
open aE (R)
open Me (ptr)
abbrev sN(z:Nat)(rl:List R):Sh:=⟨bg.l7 6 ((z:Int)+1),[],ic (λ_=>[]) 0 rl,[]⟩
theorem abt{w:World}(he:wB w)(z:Nat)(N:Int)(T:Nat->Int)(A:Option Addr)(n c:Nat)(rl:List R)(hn:rl.length=n)(hr:gK w w.heap.size (.slice A n c) rl)(ho:∀r∈rl,r.Ok)(h0:Au.oZ z N rl=0)(hp:cB.bN (z:Int)=true)(Yw:n<=64)
  (bt off tc:Nat) (ks:List (Int×Int×ByteArray)) (hk:ks.length<=64) (htc:ks.length<=tc/\tc<=9223372036854775807) (Ya:bt<w.heap.size)
  (hf:∀k x,ks[k]? = some x->∃a lc,w.cell? ⟨bt,off+k,none⟩=some (.slice (some a) 1 lc)/\Rd w w.heap.size 4 1 (.slice (some a) 1 lc) (I7 x.1 x.2.1 none 0 0 x.2.2).toList) (hx:∀x∈ks,(op1 x).Ok) :
  Calls Tryz.prog 51 #[.agg (Au.iT z N T),.slice A n c,.slice (some ⟨bt,off,none⟩) ks.length tc] w λe w'=>∃(b:Bs) (wb:Nat) (X:Nat->Prop) (OO:Nat->Nat->Prop) (gs hs:List Nat) (tv:Value),e = .returned (.tuple #[ptr wb,.int .i64 0])/\b.C=⟨z,N,T⟩/\Below w.heap.size w b.w0/\hs.length=ks.length ∧
   Wd b wb (aau ⟨z,N,T⟩ (sN z rl) (ks.map λx=>[op1 x])) X OO gs hs tv w':=by
 have HX:=hid (aF.box w (Au.iT z N T) 24)
 have HB:=hid (ae w (.cells (Au.iT z N T) 24))
 have sX:=hid (he.below HB.out)
 have TU:=hid (zE sX.out.au z N T A n c rl hn (hr.below HB.out) ho h0 hp Yw)
 have HTM:=hid (aa7 (W:=w.alloc (.cells (Au.iT z N T) 24)) (bt:=bt) (off:=off) (n:=ks.length) (c:=tc) (λk PV=>by
  obtain⟨x,hx⟩:∃x,ks[k]? = some x:=⟨_,List.getElem?_eq_getElem PV⟩
  obtain⟨a,lc,h,_⟩:=hf k x hx
  exact⟨some a,1,lc,(HB.out.cell (p:=⟨bt,off+k,none⟩) Ya).trans h,by omega⟩) htc.1 htc.2 hk)
 have HF:=hid hf
 have Zf:=hid hx
 obtain⟨ace,acf⟩:=htc
 clear he hn hr ho h0 hp hf hx
 go_in
 go_wp2_with fail
 refine HTM.out.mono ?_
 rintro e w1 ⟨rfl,rfl⟩
 go_wp2_with (refine wpList_load_row rfl 24 (.tmp 3) rfl w.heap.size rfl _ (Au.iT z N T) _ _ HX.out Tryz.underlying24 rfl abO ?_)
 clear HTM
 refine TU.out.mono ?_
 rintro e w2 ⟨B,mb,tb,rm,Om,Ot,K,rfl,hs⟩
 have H2:Hid (Lw (bs (w.alloc (.cells (Au.iT z N T) 24)) ⟨z,N,T⟩ B mb tb rm) (sN z rl) [] [] (λ_=>False) w2):=Lw.P_ hs
 clear hs TU HX
 obtain⟨bb,hbb⟩:∃x,x=bs (w.alloc (.cells (Au.iT z N T) 24)) ⟨z,N,T⟩ B mb tb rm:=⟨_,rfl⟩
 have CE:Hid (bb.B=B/\bb.C=⟨z,N,T⟩/\bb.w0=w.alloc (.cells (Au.iT z N T) 24)):=by show _/\_;rw[hbb];exact⟨rfl,rfl,rfl⟩
 rw[← hbb]at H2
 rw[show B=bb.B from CE.out.1.symm]
 clear hbb
 have HW0:Hid (Wd bb w2.heap.size ⟨sN z rl,[],[]⟩ (· = w2.heap.size) (λ_ _=>False) [] [] (.slice none 0 0) (w2.alloc (.cells #[ptr bb.B,.slice none 0 0] 118))) :=
  {lw:=H2.out.turn (X':=(· = w2.heap.size)) (ar.aS (ae w2 _)) λj hj=>.inr ⟨by rw[show j=_ from hj];exact Nat.le_refl _,by rw[show j=_ from hj];simp⟩
   blk:=aF.box _ _ _,row:=⟨rfl,.inl ⟨rfl,rfl⟩⟩,ln:=rfl,th:=λi h t hi=>by simp at hi,xw:=rfl,xt:=λj hj=>by simp[Value.ownBlock]at hj,xo:=λi j hj=>hj.elim,od:=λi k j hj=>hj.elim,tw:=λe=>by simp[Value.ownBlock]at e }
 clear H2
 go_wp2_with fail
 generalize w2.alloc (.cells #[ptr bb.B,.slice none 0 0] 118)=w3 at *
 generalize w2.heap.size=wb at *
 go_loopw [11,12,13,30] (λ_ _ _ vi wr=>∃(k:Nat) (X:Nat->Prop) (OO:Nat->Nat->Prop) (gs hs:List Nat) (tv:Value),vi = .int .i64 (k:Int)/\k<=ks.length/\Hid (hs.length=k/\Wd bb wb (aau ⟨z,N,T⟩ (sN z rl) ((ks.take k).map λx=>[op1 x])) X OO gs hs tv wr)) (λ_ _ _ vi _=>ks.length - (RowKit.intOf vi).toNat)
 case atStart=>exact⟨0,_,_,_,_,_,rfl,Nat.zero_le _,(show Hid _ from⟨rfl,HW0.out⟩)⟩
 case round =>
  obtain⟨k,X,OO,gs,hs,tv,rfl,hkn,HL⟩:=hrel;by_cases hlt:k<ks.length
  ·obtain⟨x,hxk⟩:∃x,ks[k]? = some x:=⟨_,List.getElem?_eq_getElem hlt⟩;obtain⟨a,lc,hcell,hrd⟩:=HF.out k x hxk;have U':=hid hxk
   have hBW:Below w.heap.size w wr:=by have:=HL.out.2.lw.az;rw[CE.out.2.2]at this;exact HB.out.trans (this.mono HB.out.size)
   have p0:wr.cell? ⟨bt,off+k,none⟩=some (.slice (some a) 1 lc):=(hBW.cell (p:=⟨bt,off+k,none⟩) Ya).trans hcell;have Rb:=hid (abq x.1 x.2.1 x.2.2 ((hrd.below hBW).more hBW.size));clear hcell hrd hBW hxk;go_wp2_with fail;refine Rb.out.mono ?_;rintro e w5 ⟨g,c',rfl,hc,h1⟩;have hb6:=ae w5 (.cells (thc (k:Int) (.pointer none) (some ⟨g,0,none⟩) 1 c' (.slice none 0 0)) 114);have Dw:=hid (h1.az.trans (hb6.mono h1.az.size));have UM:=hid (aF.box w5 (thc (k:Int) (.pointer none) (some ⟨g,0,none⟩) 1 c' (.slice none 0 0)) 114);have TD:=hid ((h1.rest hc).only (ar.aS (O:=λ_=>False) hb6) λ_ _ e=>e);have HG:Hid (wr.heap.size<=g/\g<w5.heap.size/\wr.heap.size<=w5.heap.size):=⟨h1.le,(h1.rest hc).1 g rfl,h1.az.size⟩;obtain⟨hc1,hc2⟩:=hc;clear h1 hb6 p0 Rb;go_wp2_with fail;generalize w5.alloc (.cells #[.int .i64 (k:Int),.pointer none,.slice (some ⟨g,0,none⟩) 1 c',.slice none 0 0] 114)=w6 at *;generalize w5.heap.size=h at *
   have Zi:Hid (Lw bb (sN z rl) gs (aau ⟨z,N,T⟩ (sN z rl) ((ks.take k).map λx=>[op1 x])).rs (λj=>X j\/j=g\/j=h) w6):=by
    have h1:=HL.out.2.lw;rw[abF]at h1;refine h1.turn (X':=λj=>X j\/j=g\/j=h) (ar.aS Dw.out) λj hj=>?_;have hs:=UM.out.lt;have hg:=HG.out
    rcases hj with hj | rfl | rfl
    ·exact .inl hj
    ·exact .inr ⟨hg.1,by omega⟩
    ·exact .inr ⟨hg.2.2,by omega⟩
   have HGH:Hid (g≠h):=by have:=HG.out;show _≠_;omega
   refine(aaB Zi.out (by rw[CE.out.2.2];exact sX.out.eb) (xs:=[]) UM.out (.inr (.inr rfl)) TD.out (λj hj=>⟨.inr (.inl hj),by rw[show j=g from hj];exact HGH.out⟩) (Zf.out x (List.mem_of_getElem? U'.out)) zo).mono ?_;rintro e w7 ⟨g2,A3,c3,rfl,hq⟩;have HQ7:=hid hq;have HWR:=hid HL.out.2;have ho7:ar (L8 bb X) wr w7:=(ar.aS Dw.out).trans HQ7.out.Gs λj e=>e.elim (λa=>.inl ⟨a.1,λk=>a.2 (.inl k)⟩) λe=>.inr (by rw[e];exact HG.out.2.2);have HO7:=hid ho7;have hxl:∀j,X j->j<wr.heap.size:=λj hj=>(HWR.out.lw.xx j hj).2;have Zd:=hid hxl;have Ht:Hid (w7.ownsRow 0 111 1 tv hs.length (hs.map ptr)):=cP (bf HWR.out.row λg e=>ho7.block g (HWR.out.row.lt g e).2 λk=>k.2 (HWR.out.xt g e)) λ_ _=>Nat.zero_le _;have UL:=hid (HWR.out.blk.only ho7 λk=>k.2 HWR.out.xw);have hlen:hs.length=k:=HL.out.1;subst hlen;have hs7:=HQ7.out.Gs.size;have hs6:=UM.out.lt
   have HS7:Hid (wr.heap.size<=w7.heap.size/\g<w7.heap.size/\h<w7.heap.size):=by have:=HG.out;show _/\_/\_;omega
   clear hq UM TD Zi ho7 hxl hs7 hs6 HL;obtain⟨TA,tc2,rfl,ht1,ht2⟩:=cO Ht.out;have y0:=UL.out.cell 0 _ rfl;have y1:=UL.out.cell 1 _ rfl;go_wp2_with (at_builtin;refine jP (hs.length+1) rfl (.tmp 47) (.tmp 49) 116 111 rfl Tryz.underlying116 (.pointer none) 1 8 aa2 rfl zo zo _ hs.length (hs.map ptr) rfl Ht.out [ptr h] rfl (λu hu=>by rw[List.mem_singleton.1 hu];rfl) rfl rfl zo ?_;intro A4 c4 w8 hown zS hfr;have MQ:ar (λj=>(Value.slice TA hs.length tc2).ownBlock=some j) w7 w8:=ar.grown zS.out λk e=>e;have vS:=hid (UL.out.only MQ λe=>HWR.out.tw e);have y2:=vS.out.cell 1 _ rfl;have f2:=vS.out.frozen 1;clear y0 y1);have h7:=HQ7.out;rw[CE.out.2.1]at h7;obtain⟨V,hV⟩:∃V,Value.slice A4 (hs.length+1) c4=V:=⟨_,rfl⟩;rw[hV]at hown hfr ⊢;have ho9:ar (· = wb) w8 (w8.setCell ⟨wb,1,none⟩ V):=ar.st (LL w8 wb) 1 _;have hs7:=HS7.out;have hs8:=MQ.size;have hs9:=ho9.size
   have abu:∀j,V.ownBlock=some j->(Value.slice TA hs.length tc2).ownBlock=some j\/w7.heap.size<=j/\j<w8.heap.size:=λj hj=>by
    rcases hfr.out with e | ⟨q,e,e2,e3⟩
    ·exact .inl (e▸hj)
    ·have:q=j:=Option.some.inj (e.symm.trans hj);subst this;exact .inr ⟨e2,e3⟩
   have hwb:=Zd.out wb HWR.out.xw;have hold:∀j,(Value.slice TA hs.length tc2).ownBlock=some j->j<wr.heap.size:=λj e=>Zd.out j (HWR.out.xt j e)
   have e1:aau ⟨z,N,T⟩ (sN z rl) ((ks.take (hs.length+1)).map λx=>[op1 x])=⟨(aau ⟨z,N,T⟩ (sN z rl) ((ks.take hs.length).map λx=>[op1 x])).S,(aau ⟨z,N,T⟩ (sN z rl) ((ks.take hs.length).map λx=>[op1 x])).rs++[sZ ⟨z,N,T⟩ (hs.length:Int) ((0:Nat):Int) (op1 x).kd (op1 x).n (op1 x).bs (op1 x).s.data.toList],
     (aau ⟨z,N,T⟩ (sN z rl) ((ks.take hs.length).map λx=>[op1 x])).ts++[⟨some (aau ⟨z,N,T⟩ (sN z rl) ((ks.take hs.length).map λx=>[op1 x])).rs.length,[],[]⟩]⟩:=by
    rw[List.take_add_one,U'.out]
    simp only[Option.toList,List.map_append,List.map_cons,List.map_nil]
    rw[abr]
    unfold abN aav
    rw[← HWR.out.ln]
    rfl
   have HQF:Hid (Wd bb wb (aau ⟨z,N,T⟩ (sN z rl) ((ks.take (hs.length+1)).map λx=>[op1 x])) (λj=>X j\/(j=g\/j=h\/V.ownBlock=some j/\w7.heap.size<=j)) (λk j=>OO k j\/k=hs.length/\(j=g\/j=h)) (gs++[g2]) (hs++[h]) V (w8.setCell ⟨wb,1,none⟩ V)):=by
    show Wd _ _ _ _ _ _ _ _ _;rw[e1]
    refine HWR.out.add (N:=λj=>j=g\/j=h\/V.ownBlock=some j/\w7.heap.size<=j) (N0:=λj=>j=g\/j=h) (by
      rw[abF]
      refine h7.lw.turn (X':=λj=>X j\/(j=g\/j=h\/V.ownBlock=some j/\w7.heap.size<=j)) ((MQ.mono λj e=>Or.inl (HWR.out.xt j e)).trans ho9 λj e=>.inl (.inl (by rw[show j=wb from e];exact HWR.out.xw))) λj hj=>?_
      rcases hj with hj | hj | hj | hj
      ·exact .inl (.inl hj)
      ·exact .inl (.inr (.inl hj))
      ·exact .inl (.inr (.inr hj))
      ·exact .inr ⟨hj.2,(abu j hj.1).elim (λe=>by have:=hold j e;omega) λe=>by omega⟩)
     (λj hj=>by
      rcases hj with rfl | rfl | hj
      ·exact HG.out.1
      ·exact HG.out.2.2
      ·omega)
     (((HO7.out.mono λj e=>Or.inl e).trans MQ λj e=>.inl (.inr (.inr e))).trans ho9 λj e=>.inl (.inr (.inl e)))
     (vS.out.set' 1 V rfl) ?_ ?_ ?_ ?_
    ·have h10:=cP (b2:=bb.w0.heap.size) hown.out λq hq=>(abu q hq).elim (λe=>(HWR.out.lw.xx q (HWR.out.xt q e)).1) λe=>by have:=HWR.out.lw.size;omega
     have h11:=bf h10 λq hq=>ho9.block q (h10.lt q hq).2 λe=>by
      rw[show q=wb from e]at hq
      rcases abu wb hq with e | e
      ·exact HWR.out.tw e
      ·omega
     simpa using h11
    ·refine abC (R:=(· = g)) (n:=0) (m:=0) (rv:=ptr g2) ?_ rfl rfl ((h7.blk.only MQ λe=>by have:=hold h e;have:=HG.out;omega).only ho9 λe=>by have:=HG.out;omega) ((h7.rest.only MQ λj hj e=>by rw[show j=g from hj]at e;have:=hold g e;have:=HG.out;omega).only ho9 λj hj e=>by rw[show j=g from hj]at e;have:=HG.out;omega)
      ⟨rfl,.inl ⟨rfl,rfl⟩⟩ (λj hj=>by simp[Value.ownBlock]at hj) (λj hj=>⟨.inl hj,λe=>HGH.out (hj.symm.trans e)⟩) (.inr rfl) (λk hk=>?_) (λy hy=>absurd hy List.not_mem_nil) zs
     ·have hl:=HWR.out.lw.ln;show ptr g2=ptr _;rw[← hl];simp[List.getD]
     ·injection hk with hk;subst hk;have hl:=HWR.out.lw.ln;rw[← hl];simp
    ·intro j hj;refine⟨hj.elim .inl λe=>.inr (.inl e),λe=>?_⟩
     rcases abu j e with e | e
     ·have:=hold j e;have:=HG.out
      rcases hj with rfl | rfl <;> omega
     ·rcases hj with rfl | rfl <;> omega
    ·intro j hj;exact(abu j hj).imp id λe=>.inr (.inr ⟨hj,e.1⟩)
   clear h7 hown zS hfr MQ ho9 hs7 hs8 hs9 abu hwb hold e1;go_roundw
   case rel=>exact⟨hs.length+1,_,_,_,_,_,by go_num,by omega,(show Hid _ from⟨by simp,HQF.out⟩)⟩
   case measure=>simp[RowKit.intOf];omega
  ·obtain rfl:k=ks.length:=zo
   have HQ:Hid (hs.length=ks.length/\Wd bb wb (aau ⟨z,N,T⟩ (sN z rl) (ks.map λx=>[op1 x])) X OO gs hs tv wr):=by
    have:=HL.out;rw[List.take_length]at this;exact this
   go_wp2_with fail;go_ret2;exact⟨bb,wb,X,OO,gs,hs,tv,rfl,CE.out.2.1,by rw[CE.out.2.2];exact HB.out,HQ.out.1,HQ.out.2⟩
section
variable {b:Bs}{gs hs:List Nat}{X X' X'':Nat->Prop}{W w w':World}{h i wb B:Nat}{st st':Ws}{tv:Value}{OO OO':Nat->Nat->Prop}
def aap(b:Bs)(st:Ws)(n:Int):Prop:=∀(i:Nat) (t:Th) (k:Nat) (r:Rn),n=(i:Int)->st.ts[i]? = some t->t.run=some k->st.rs[k]? = some r->(r.at_ ≠ .done->Hr r.at_ b.C b.w0)/\Rm 12 st.S/\Fit b.C st.S r
theorem abv(H:Wd b wb st X OO gs hs tv W)(he:s_ b.w0)(n:Int)(hok:aap b st n) :
  Calls Tryz.prog 23 #[ptr wb,.int .i64 n] W λe w'=>e = .returned (.bool (Tn b.C st n).1)/\Aft b wb (Tn b.C st n).2 X OO hs tv W w':=by
 by_cases h0:n<0
 ·rw[show Tn b.C st n=(false,st) by unfold Tn;rw[if_pos h0]];refine(aaK H (.inl h0)).mono ?_;rintro e w' ⟨rfl,rfl⟩;exact⟨rfl,_,_,_,H,Kept.refl⟩
 ·obtain⟨i,rfl⟩:∃i:Nat,n=(i:Int):=⟨n.toNat,by omega⟩;by_cases hl:i<hs.length
  ·obtain⟨h,hi⟩:∃h,hs[i]? = some h:=⟨_,List.getElem?_eq_getElem hl⟩;obtain⟨t,ht⟩:∃t,st.ts[i]? = some t:=⟨_,List.getElem?_eq_getElem (by rw[← H.ln];exact hl)⟩
   cases hr:t.run with
   | none =>
    rw[show Tn b.C st (i:Int)=(false,st) by unfold Tn;rw[if_neg h0];simp only[Int.toNat_natCast,ht,hr]]
    refine(aa5 H hi ht hr).mono ?_
    rintro e w' ⟨rfl,rfl⟩
    exact⟨rfl,_,_,_,H,Kept.refl⟩
   | some k =>
    obtain⟨r,hk⟩:∃r,st.rs[k]? = some r:=⟨_,List.getElem?_eq_getElem (by rw[← H.lw.ln];exact(H.th i h t hi ht).rl k hr)⟩
    rw[show Tn b.C st (i:Int)=aa0 b.C st i t k r by unfold Tn;rw[if_neg h0];simp only[Int.toNat_natCast,ht,hr,hk]]
    obtain⟨k1,k2,k3⟩:=hok i t k r rfl ht hr hk
    exact abh H he hi ht hr hk k1 k2 k3
  ·rw[show Tn b.C st (i:Int)=(false,st) by unfold Tn;rw[if_neg h0];simp only[Int.toNat_natCast,List.getElem?_eq_none (show st.ts.length<=i by rw[← H.ln];omega)]];refine(aaK H (.inr zo)).mono ?_;rintro e w' ⟨rfl,rfl⟩;exact⟨rfl,_,_,_,H,Kept.refl⟩
theorem Kept.trans{w2:World}{ab1:Nat->Nat->Prop}(h:Kept X X' OO OO' W w')(k:Kept X' X'' OO' ab1 w' w2):Kept X X'' OO ab1 W w2:=λp h1 h2=>by
 obtain⟨a1,a2,a3⟩:=h p h1 h2;obtain⟨b1,b2,b3⟩:=k p a1 a2;exact⟨b1,b2,b3.trans a3⟩
theorem Wd.own(H:Wd b wb st X OO gs hs tv W)(o:Obj):Wd b wb st (λj=>X j\/j=W.heap.size) OO gs hs tv (W.alloc o)/\∀i,¬OO i W.heap.size:=by
 have hb:=ae W o;refine⟨{ lw:=H.lw.turn (ar.aS hb) λj hj=>hj.imp id λe=>by rw[e];exact⟨Nat.le_refl _,by simp⟩,blk:=H.blk.next hb,row:=bf H.row λg e=>hb.block g (H.row.lt g e).2,ln:=H.ln,th:=λi h t hi ht=>(H.th i h t hi ht).keep (ar.aS (O:=λ_=>False) hb) λ_ _ e=>e,xw:=.inl H.xw,xt:=λj hj=>.inl (H.xt j hj),xo:=λi j hj=>⟨.inl (H.xo i j hj).1,(H.xo i j hj).2⟩,od:=H.od,tw:=H.tw },λi hi=>?_⟩;have:=(H.lw.xx _ (H.xo i _ hi).1).2;omega
def Sc(C:Cf)(st:Ws)(zs:List Int):Nat×Ws:=zs.foldl (λp z=>((if (Tn C p.2 z).1 then p.1+1 else p.1),(Tn C p.2 z).2)) (0,st)
theorem abw(C:Cf)(st:Ws)(zs:List Int)(z:Int):Sc C st (zs++[z])=((if (Tn C (Sc C st zs).2 z).1 then(Sc C st zs).1+1 else(Sc C st zs).1),(Tn C (Sc C st zs).2 z).2):=by
 unfold Sc;rw[List.foldl_append];rfl
theorem abG(H:Wd b wb st X OO gs hs tv W)(he:s_ b.w0)(p off n c:Nat)(zs:List Int)(hn:zs.length=n)(hc:n<=c)(hm:c<=9223372036854775807)(hp:X p/\∀i,¬OO i p)(hz:∀k,k<n->W.cell? ⟨p,off+k,none⟩=some (.int .i64 (zs.getD k 0)))
  (hok:∀k,k<n->aap b (Sc b.C st (zs.take k)).2 (zs.getD k 0)) (Yw:∀k,(Sc b.C st (zs.take k)).1<=k) :
  Calls Tryz.prog 24 #[ptr wb,.slice (some ⟨p,off,none⟩) n c] W λe w'=>e = .returned (.int .i64 ((Sc b.C st zs).1:Int))/\Aft b wb (Sc b.C st zs).2 X OO hs tv W w':=by
 have HH:=hid H
 have HP:=hid hp
 have HZ:=hid hz
 have xE:=hid hok
 have H64:=hid Yw
 have HN:=hid hn
 have HE:=hid he
 clear H hp hz hok Yw hn he
 go_in
 go_wp2_with fail
 go_loopw [5,7,10] (λnv _ vi wr=>∃k:Nat,nv = .int .i64 ((Sc b.C st (zs.take k)).1:Int)/\vi = .int .i64 (k:Int)/\k<=n/\Hid (Aft b wb (Sc b.C st (zs.take k)).2 X OO hs tv W wr)) (λ_ _ vi _=>n - (RowKit.intOf vi).toNat)
 case atStart=>exact⟨0,rfl,rfl,Nat.zero_le _,(show Hid _ from⟨_,_,_,HH.out,Kept.refl⟩)⟩
 case round =>
  obtain⟨k,rfl,rfl,hk,HA⟩:=hrel;by_cases hlt:k<n
  ·obtain⟨X2,OO2,gs2,hwd,hkp⟩:=HA.out;have ZV:=hid hwd;have HKP:=hid hkp;have p0:wr.cell? ⟨p,off+k,none⟩=some (.int .i64 (zs.getD k 0)):=(World.cell?_of_block (w:=W) (a:=⟨p,off+k,none⟩) (hkp p HP.out.1 HP.out.2).2.2).trans (HZ.out k hlt);have Zj:=hid (abv hwd HE.out (zs.getD k 0) (xE.out k hlt))
   have UJ:Sc b.C st (zs.take (k+1))=((if (Tn b.C (Sc b.C st (zs.take k)).2 (zs.getD k 0)).1 then(Sc b.C st (zs.take k)).1+1 else(Sc b.C st (zs.take k)).1),(Tn b.C (Sc b.C st (zs.take k)).2 (zs.getD k 0)).2):=by
    have hl:k<zs.length:=by rw[HN.out];exact hlt
    rw[List.take_add_one,List.getElem?_eq_getElem hl,show zs.getD k 0=zs[k] by simp[List.getD,hl]];exact abw ..
   have HNX:=hid UJ;have h6:=H64.out k;clear hwd hkp UJ HA;generalize zs.getD k 0=z at *;go_wp2_with fail;refine Zj.out.mono ?_;rintro e w2 ⟨rfl,ha⟩
   have HQ:Hid (Aft b wb (Sc b.C st (zs.take (k+1))).2 X OO hs tv W w2):=by
    obtain⟨X3,OO3,gs3,h3,k3⟩:=ha;rw[HNX.out];exact⟨X3,OO3,gs3,h3,HKP.out.trans k3⟩
   clear ha p0
   cases hb:(Tn b.C (Sc b.C st (zs.take k)).2 z).1 with
   | true =>
    have h1:((Sc b.C st (zs.take (k+1))).1:Int)=((Sc b.C st (zs.take k)).1:Int)+1:=by rw[HNX.out,hb];simp
    clear hb
    go_wp2_with fail
    go_roundw
    case rel=>exact⟨k+1,by rw[h1],by go_num,by omega,HQ⟩
    case measure=>simp[RowKit.intOf];omega
   | false =>
    have h1:((Sc b.C st (zs.take (k+1))).1:Int)=((Sc b.C st (zs.take k)).1:Int):=by rw[HNX.out,hb];simp
    clear hb
    go_wp2_with fail
    go_roundw
    case rel=>exact⟨k+1,by rw[h1],by go_num,by omega,HQ⟩
    case measure=>simp[RowKit.intOf];omega
  ·obtain rfl:k=n:=zo
   have HQ:Hid (Aft b wb (Sc b.C st zs).2 X OO hs tv W wr/\(Sc b.C st (zs.take k)).1=(Sc b.C st zs).1):=by
    have h1:=HA.out;rw[List.take_of_length_le (by rw[HN.out];exact Nat.le_refl _)]at h1 ⊢;exact⟨h1,rfl⟩
   go_wp2_with fail;go_ret;exact⟨by rw[← HQ.out.2];exact rfl,HQ.out.1⟩
end
end Pg
end Go.Proofs.YtbhnbcadgmagpaaGreatDoor
namespace Go.Proofs.YtbhnbcadgmagpaaGreatDoor
open Go.ChangeShapes Go.WideShapes Go.ChangeAt Go.RowKit Go.aN Go.Lib
namespace Pg
open bg (Ms af bq ay aP ag L4 aH aq ai bD)
open aE (R)
open ak (Ke)
open Me (ptr)
open Tb (UW TM Fw)
abbrev kw:List (Int×Int×ByteArray):=[(2,2,ByteArray.empty),(2,3,ByteArray.empty)]
abbrev u0:Ws:=aau c1 (sN 1 []) (kw.map λx=>[op1 x])
abbrev zw:List Int:=[0,1,1,0,7,1,0,0]
def u1:Ws:=(Tn c1 u0 0).2
def u2:Ws:=(Tn c1 u1 1).2
def u3:Ws:=(Tn c1 u2 1).2
def u4:Ws:=(Tn c1 u3 0).2
def u5:Ws:=(Tn c1 u4 7).2
def u6:Ws:=(Tn c1 u5 1).2
def u7:Ws:=(Tn c1 u6 0).2
def u8:Ws:=(Tn c1 u7 0).2
def pq0:Rn:=u0.rs.getD 0 (rz 0 0)
theorem t_0:u0.ts[0]? = some ⟨some 0,[],[]⟩/\u0.rs[0]? = some pq0:=⟨rfl,rfl⟩
theorem a_0:pq0.at_ = .readClock:=rfl
theorem f_0:Fit c1 u0.S pq0:={ wf:=⟨by decide,by decide⟩,wg:=⟨by decide,by decide⟩,wc:=⟨by decide,by decide⟩,k:=⟨by decide,by decide,by decide,by decide,by decide⟩,p:=⟨by decide,by decide,by decide,by decide,by decide,by decide,by decide⟩,st:=by decide,cn:=by decide,cT:=vz.cT,z:=by decide,tt:=by decide,mr:=(λh=>by rcases h with h | h <;> cases h),q:=(λh=>by rcases h with h | h | h <;> cases h) }
theorem r_0:Rm 12 u0.S:=⟨by decide,by decide,by decide,by decide⟩
theorem ab4{b:Bs}(hC:b.C=c1)(he:Env b.w0):aap b u0 0:=by
 intro i t k r hi ht hr hk;obtain rfl:i=0:=zo;rw[t_0.1]at ht;obtain rfl:=Option.some.inj ht;injection hr with hr;subst hr;rw[t_0.2]at hk;obtain rfl:=Option.some.inj hk;rw[hC];exact⟨λ_=>by rw[a_0];exact OR he,r_0,f_0⟩
def pq1:Rn:=u1.rs.getD 1 (rz 0 0)
theorem t_1:u1.ts[1]? = some ⟨some 1,[],[]⟩/\u1.rs[1]? = some pq1:=⟨rfl,rfl⟩
theorem a_1:pq1.at_ = .readClock:=rfl
theorem f_1:Fit c1 u1.S pq1:={ wf:=⟨by decide,by decide⟩,wg:=⟨by decide,by decide⟩,wc:=⟨by decide,by decide⟩,k:=⟨by decide,by decide,by decide,by decide,by decide⟩,p:=⟨by decide,by decide,by decide,by decide,by decide,by decide,by decide⟩,st:=by decide,cn:=by decide,cT:=vz.cT,z:=by decide,tt:=by decide,mr:=(λh=>by rcases h with h | h <;> cases h),q:=(λh=>by rcases h with h | h | h <;> cases h) }
theorem r_1:Rm 12 u1.S:=⟨by decide,by decide,by decide,by decide⟩
theorem ab5{b:Bs}(hC:b.C=c1)(he:Env b.w0):aap b u1 1:=by
 intro i t k r hi ht hr hk;obtain rfl:i=1:=zo;rw[t_1.1]at ht;obtain rfl:=Option.some.inj ht;injection hr with hr;subst hr;rw[t_1.2]at hk;obtain rfl:=Option.some.inj hk;rw[hC];exact⟨λ_=>by rw[a_1];exact OR he,r_1,f_1⟩
def pq2:Rn:=u2.rs.getD 1 (rz 0 0)
theorem t_2:u2.ts[1]? = some ⟨some 1,[],[]⟩/\u2.rs[1]? = some pq2:=⟨rfl,rfl⟩
theorem a_2:pq2.at_ = .tick:=rfl
theorem f_2:Fit c1 u2.S pq2:={ wf:=⟨by decide,by decide⟩,wg:=⟨by decide,by decide⟩,wc:=⟨by decide,by decide⟩,k:=⟨by decide,by decide,by decide,by decide,by decide⟩,p:=⟨by decide,by decide,by decide,by decide,by decide,by decide,by decide⟩,st:=by decide,cn:=by decide,cT:=vz.cT,z:=by decide,tt:=by decide,mr:=(λh=>by rcases h with h | h <;> cases h),q:=(λh=>by rcases h with h | h | h <;> cases h) }
theorem r_2:Rm 12 u2.S:=⟨by decide,by decide,by decide,by decide⟩
theorem ab6{b:Bs}(hC:b.C=c1)(he:Env b.w0):aap b u2 1:=by
 intro i t k r hi ht hr hk;obtain rfl:i=1:=zo;rw[t_2.1]at ht;obtain rfl:=Option.some.inj ht;injection hr with hr;subst hr;rw[t_2.2]at hk;obtain rfl:=Option.some.inj hk;rw[hC];exact⟨λ_=>by rw[a_2];exact Rs he,r_2,f_2⟩
def pq3:Rn:=u3.rs.getD 0 (rz 0 0)
theorem t_3:u3.ts[0]? = some ⟨some 0,[],[]⟩/\u3.rs[0]? = some pq3:=⟨rfl,rfl⟩
theorem a_3:pq3.at_ = .tick:=rfl
theorem f_3:Fit c1 u3.S pq3:={ wf:=⟨by decide,by decide⟩,wg:=⟨by decide,by decide⟩,wc:=⟨by decide,by decide⟩,k:=⟨by decide,by decide,by decide,by decide,by decide⟩,p:=⟨by decide,by decide,by decide,by decide,by decide,by decide,by decide⟩,st:=by decide,cn:=by decide,cT:=vz.cT,z:=by decide,tt:=by decide,mr:=(λh=>by rcases h with h | h <;> cases h),q:=(λh=>by rcases h with h | h | h <;> cases h) }
theorem r_3:Rm 12 u3.S:=⟨by decide,by decide,by decide,by decide⟩
theorem ab7{b:Bs}(hC:b.C=c1)(he:Env b.w0):aap b u3 0:=by
 intro i t k r hi ht hr hk;obtain rfl:i=0:=zo;rw[t_3.1]at ht;obtain rfl:=Option.some.inj ht;injection hr with hr;subst hr;rw[t_3.2]at hk;obtain rfl:=Option.some.inj hk;rw[hC];exact⟨λ_=>by rw[a_3];exact Rs he,r_3,f_3⟩
def pq6:Rn:=u6.rs.getD 0 (rz 0 0)
theorem t_6:u6.ts[0]? = some ⟨some 0,[],[]⟩/\u6.rs[0]? = some pq6:=⟨rfl,rfl⟩
theorem a_6:pq6.at_ = .readClock:=rfl
theorem f_6:Fit c1 u6.S pq6:={ wf:=⟨by decide,by decide⟩,wg:=⟨by decide,by decide⟩,wc:=⟨by decide,by decide⟩,k:=⟨by decide,by decide,by decide,by decide,by decide⟩,p:=⟨by decide,by decide,by decide,by decide,by decide,by decide,by decide⟩,st:=by decide,cn:=by decide,cT:=vz.cT,z:=by decide,tt:=by decide,mr:=(λh=>by rcases h with h | h <;> cases h),q:=(λh=>by rcases h with h | h | h <;> cases h) }
theorem r_6:Rm 12 u6.S:=⟨by decide,by decide,by decide,by decide⟩
theorem ab8{b:Bs}(hC:b.C=c1)(he:Env b.w0):aap b u6 0:=by
 intro i t k r hi ht hr hk;obtain rfl:i=0:=zo;rw[t_6.1]at ht;obtain rfl:=Option.some.inj ht;injection hr with hr;subst hr;rw[t_6.2]at hk;obtain rfl:=Option.some.inj hk;rw[hC];exact⟨λ_=>by rw[a_6];exact OR he,r_6,f_6⟩
def pq7:Rn:=u7.rs.getD 0 (rz 0 0)
theorem t_7:u7.ts[0]? = some ⟨some 0,[],[]⟩/\u7.rs[0]? = some pq7:=⟨rfl,rfl⟩
theorem a_7:pq7.at_ = .tick:=rfl
theorem f_7:Fit c1 u7.S pq7:={ wf:=⟨by decide,by decide⟩,wg:=⟨by decide,by decide⟩,wc:=⟨by decide,by decide⟩,k:=⟨by decide,by decide,by decide,by decide,by decide⟩,p:=⟨by decide,by decide,by decide,by decide,by decide,by decide,by decide⟩,st:=by decide,cn:=by decide,cT:=vz.cT,z:=by decide,tt:=by decide,mr:=(λh=>by rcases h with h | h <;> cases h),q:=(λh=>by rcases h with h | h | h <;> cases h) }
theorem r_7:Rm 12 u7.S:=⟨by decide,by decide,by decide,by decide⟩
theorem ab9{b:Bs}(hC:b.C=c1)(he:Env b.w0):aap b u7 0:=by
 intro i t k r hi ht hr hk;obtain rfl:i=0:=zo;rw[t_7.1]at ht;obtain rfl:=Option.some.inj ht;injection hr with hr;subst hr;rw[t_7.2]at hk;obtain rfl:=Option.some.inj hk;rw[hC];exact⟨λ_=>by rw[a_7];exact Rs he,r_7,f_7⟩
theorem ab_{b:Bs}:aap b u4 7:=by
 intro i t k r hi ht hr hk;obtain rfl:i=7:=zo;rw[show u4.ts[7]? = none from rfl]at ht
 cases ht
theorem ab'{b:Bs}:aap b u5 1:=by
 intro i t k r hi ht hr hk;obtain rfl:i=1:=zo;rw[show u5.ts[1]? = some ⟨none,[],[(0,0,3)]⟩from rfl]at ht;obtain rfl:=Option.some.inj ht
 cases hr
theorem w_0:Sc c1 u0 (zw.take 0)=(0,u0):=rfl
theorem w_1:Sc c1 u0 (zw.take 1)=(1,u1):=rfl
theorem w_2:Sc c1 u0 (zw.take 2)=(2,u2):=rfl
theorem w_3:Sc c1 u0 (zw.take 3)=(3,u3):=rfl
theorem w_4:Sc c1 u0 (zw.take 4)=(4,u4):=rfl
theorem w_5:Sc c1 u0 (zw.take 5)=(4,u5):=rfl
theorem w_6:Sc c1 u0 (zw.take 6)=(4,u6):=rfl
theorem w_7:Sc c1 u0 (zw.take 7)=(5,u7):=rfl
theorem w_8:Sc c1 u0 (zw.take 8)=(6,u8):=rfl
theorem abU{b:Bs}(hC:b.C=c1)(he:Env b.w0)(k:Nat)(hk:k<8):aap b (Sc b.C u0 (zw.take k)).2 (zw.getD k 0):=by
 rw[hC]
 match k,hk with
 | 0,_=>rw[w_0];exact ab4 hC he
 | 1,_=>rw[w_1];exact ab5 hC he
 | 2,_=>rw[w_2];exact ab6 hC he
 | 3,_=>rw[w_3];exact ab7 hC he
 | 4,_=>rw[w_4];exact ab_
 | 5,_=>rw[w_5];exact ab'
 | 6,_=>rw[w_6];exact ab8 hC he
 | 7,_=>rw[w_7];exact ab9 hC he
theorem abV(k:Nat):(Sc c1 u0 (zw.take k)).1<=k:=by
 by_cases h:k<8
 ·match k,h with
  | 0,_=>rw[w_0];decide
  | 1,_=>rw[w_1];decide
  | 2,_=>rw[w_2];decide
  | 3,_=>rw[w_3];decide
  | 4,_=>rw[w_4];decide
  | 5,_=>rw[w_5];decide
  | 6,_=>rw[w_6];decide
  | 7,_=>rw[w_7];decide
 ·rw[List.take_of_length_le (by show 8<=k;omega),show Sc c1 u0 zw=(6,u8)from w_8];omega
theorem aa3:u8.ts=[⟨none,[],[(0,0,5)]⟩,⟨none,[],[(0,0,3)]⟩]:=rfl
theorem aaT:vG (af u8.S.ms 0)=0/\kG (af u8.S.ms 0)=0/\cG (af u8.S.ms 0)=5:=zd
theorem acd(w:World):(Op.equalIn 10000 49 (.agg (ou 0 0 3)) (.agg (ou 0 0 3))).run Tryz.prog w = .ok true w:=eq_self Ro _ zk zk w
end Pg
namespace Pg
open bg (Ms af)
open aE (R)
open Me (ptr)
theorem aaU{w W:World}{g size n:Nat}{cs:Array Value}{t:TypeId}(H:aF W g cs t)(hl:cs.size=n*size)(hn:n<=9223372036854775807):Rd W W.heap.size size n (.slice (some ⟨g,0,none⟩) n n) cs.toList :=
 ⟨_,n,rfl,Nat.le_refl _,hn,by simpa using hl,λ_=>⟨g,0,rfl,H.lt,λj u hu=>by rw[Nat.zero_add];exact H.cell j u (by rw[← Array.getElem?_toList];exact hu)⟩⟩
abbrev VM(w:World):World:=((w.alloc (.cells (I7 2 2 none 0 0 ByteArray.empty) 39)).alloc (.cells (I7 2 3 none 0 0 ByteArray.empty) 39)).alloc (.cells #[.slice (some ⟨w.heap.size,0,none⟩) 1 1,.slice (some ⟨w.heap.size+1,0,none⟩) 1 1] 26)
theorem aa_(w:World):Below w.heap.size w (VM w)/\aF (VM w) w.heap.size (I7 2 2 none 0 0 ByteArray.empty) 39/\aF (VM w) (w.heap.size+1) (I7 2 3 none 0 0 ByteArray.empty) 39 ∧
  aF (VM w) (w.heap.size+2) #[.slice (some ⟨w.heap.size,0,none⟩) 1 1,.slice (some ⟨w.heap.size+1,0,none⟩) 1 1] 26:=by
 have b1:=ae w (.cells (I7 2 2 none 0 0 ByteArray.empty) 39)
 refine⟨(b1.trans ((ae _ (.cells (I7 2 3 none 0 0 ByteArray.empty) 39)).mono b1.size)).alloc zt _,((aF.box w _ _).alloc _).alloc _,(aF.n5 w _ _ _).alloc _,aF.ab2 w _ _ _ _⟩
theorem abP(w:World)(he:wB w):Calls Tryz.prog 22 #[] w λe w'=>e = .returned (.bool true)/\Below w.heap.size w w':=by
 obtain⟨hb0,k0,k1,k2⟩:=aa_ w;have hE:=he.below hb0
 have TU:=hid (abt hE 1 1 (λ_=>0) none 0 0 [] rfl (gK.nil _ _) (λr h=>absurd h List.not_mem_nil) zd zd zo (w.heap.size+2) 0 2 kw zd ⟨by decide,by omega⟩ k2.lt (λk x hk=>by
  match k,hk with
  | 0,hk=>obtain rfl:=Option.some.inj hk;exact⟨⟨w.heap.size,0,none⟩,1,k2.cell 0 _ rfl,aaU (w:=w) k0 rfl zo⟩
  | 1,hk=>obtain rfl:=Option.some.inj hk;exact⟨⟨w.heap.size+1,0,none⟩,1,k2.cell 1 _ rfl,aaU (w:=w) k1 rfl zo⟩
  | k+2,hk=>simp at hk) (λx hx=>by
  simp at hx
  rcases hx with rfl | rfl
  ·exact⟨by decide,by decide,Nat.le_refl _,Nat.zero_le _,by decide⟩
  ·exact⟨by decide,by decide,Nat.le_refl _,Nat.zero_le _,by decide⟩))
 have qV:=hid hb0;have HE:=hid hE;clear he hb0 k0 k1 k2 hE;go_in;go_wp2_with fail;refine(TU.out).mono ?_;rintro e w2 ⟨b,wb,X,OO,gs,hs,tv,rfl,hC,hbel,hlen,hW⟩;have H2:Hid (Wd b wb u0 X OO gs hs tv w2):=hW;have Yg:Hid (Below w.heap.size w b.w0):=qV.out.trans (hbel.mono qV.out.size);have SI:Hid (wB b.w0):=HE.out.below hbel;have HC:=hid hC;have O_:=hid hlen;clear hC hbel hlen hW TU qV HE;go_wp2_with fail;have h3:=H2.out.own (.cells #[.int .i64 0,.int .i64 1,.int .i64 1,.int .i64 0,.int .i64 7,.int .i64 1,.int .i64 0,.int .i64 0] 3);have hz:=aF.box w2 #[.int .i64 0,.int .i64 1,.int .i64 1,.int .i64 0,.int .i64 7,.int .i64 1,.int .i64 0,.int .i64 0] 3
 have abW:=hid (abG h3.1 SI.out.eb w2.heap.size 0 8 8 zw rfl zl zo ⟨.inr rfl,h3.2⟩ (λk hk=>by
  rw[Nat.zero_add]
  refine hz.cell k _ ?_
  match k,hk with
  | 0,_=>rfl
  | 1,_=>rfl
  | 2,_=>rfl
  | 3,_=>rfl
  | 4,_=>rfl
  | 5,_=>rfl
  | 6,_=>rfl
  | 7,_=>rfl) (abU HC.out SI.out.eb.pg) (λk=>by rw[HC.out];exact abV k))
 rw[show Sc b.C u0 zw=(6,u8) by rw[HC.out];exact w_8]at abW;clear h3 hz H2;refine abW.out.mono ?_;rintro e w4 ⟨rfl,X4,OO4,gs4,hwd,-⟩;have H4:=hid hwd
 obtain⟨h0,h1,rfl⟩:∃h0 h1,hs=[h0,h1]:=by
  have hl:=O_.out
  match hs,hl with
  | [h0,h1],_=>exact⟨h0,h1,rfl⟩
 clear hwd abW;go_wp2_with fail;refine(abn H4.out (λt ht=>by rw[aa3]at ht;simp at ht;rcases ht with rfl | rfl <;> rfl)).mono ?_;rintro e w5 ⟨rfl,rfl⟩;go_wp2_with fail;refine(abj (i:=0) H4.out rfl (by rw[aa3];rfl) rfl).mono ?_;rintro e w5 ⟨rfl,rfl⟩;go_wp2_with fail;refine(abk (i:=0) H4.out rfl (by rw[aa3];rfl) rfl).mono ?_;rintro e w5 ⟨rfl,hb⟩;have H5:=hid (H4.out.next hb);clear hb H4;go_wp2_with fail;refine(aaR H5.out).mono ?_;rintro e w6 ⟨rfl,rfl⟩;go_wp2_with fail;refine(aaw (i:=0) (t:=⟨none,[],[(0,0,5)]⟩) H5.out rfl (by rw[aa3];rfl)).mono ?_;rintro e w7 ⟨v,rfl,hv,hb⟩;have hb8:=hb.trans ((ae w7 (.cells (ou 0 0 5) 49)).mono hb.size);have H8:=hid (H5.out.next hb8);have Yy:=hid (aaD v (.slice (some ⟨w7.heap.size,0,none⟩) 1 1) [(0,0,5)] (w7.alloc (.cells (ou 0 0 5) 49)) (hv.next (ae w7 _)) (aaU (w:=w) (aF.box w7 (ou 0 0 5) 49) rfl zs) (λx hx w=>by rw[List.mem_singleton.1 hx];exact WR w));obtain⟨A,c,rfl,-,-⟩:=hv.len;clear hv hb hb8 H5;go_wp2_with fail;refine Yy.out.mono ?_;rintro e w9 ⟨rfl,q,rfl⟩;have H9:=hid (H8.out.next ((Below.refl _ _).lW q));clear Yy H8;go_wp2_with fail;refine(aaw (i:=1) (t:=⟨none,[],[(0,0,3)]⟩) H9.out rfl (by rw[aa3];rfl)).mono ?_;rintro e w10 ⟨v,rfl,hv,hb⟩;have hb8:=hb.trans ((ae w10 (.cells (ou 0 0 3) 49)).mono hb.size);have H11:=hid (H9.out.next hb8);have Yy:=hid (aaD v (.slice (some ⟨w10.heap.size,0,none⟩) 1 1) [(0,0,3)] (w10.alloc (.cells (ou 0 0 3) 49)) (hv.next (ae w10 _)) (aaU (w:=w) (aF.box w10 (ou 0 0 3) 49) rfl zs) (λx hx w=>by rw[List.mem_singleton.1 hx];exact acd w));obtain⟨A2,c2,rfl,-,-⟩:=hv.len;clear hv hb hb8 H9;go_wp2_with fail;refine Yy.out.mono ?_;rintro e w12 ⟨rfl,q2,rfl⟩;have H12:=hid (H11.out.next ((Below.refl _ _).lW q2));clear Yy H11;go_wp2_with fail;refine(aa1 H12.out).mono ?_;rintro e w13 ⟨rfl,rfl⟩;go_wp2_with fail;have WZ:=hid (H12.out.lw.gate SI.out.eb.pg);rw[aaT.1,aaT.2.1,aaT.2.2]at WZ;have e5:=WS;refine WZ.out.mono ?_;rintro e w14 ⟨rfl,hb⟩;have H14:=hid (H12.out.next hb);clear hb WZ H12;go_wp2_with fail;go_ret;exact⟨rfl,Yg.out.trans (H14.out.lw.az.mono Yg.out.size)⟩
theorem abx{k:IntKind}{w:World}{B B':Nat}{A:Option Addr}{n:Nat}{zs:List Int}(h:Ints k w B A n zs)(hB:B<=B'):Ints k w B' A n zs:=⟨h.len,λhn=>by
 obtain⟨b,off,e,hb,hc⟩:=h.at_ hn
 exact⟨b,off,e,Nat.lt_of_lt_of_le hb hB,hc⟩,h.fit⟩
theorem aaE(t:Int)(A:Option Addr)(n c:Nat)(zs:List Int)(w:World)(he:wB w)(ht : -9223372036854775808<=t/\t<=9223372036854775807)(hz:Ints .i64 w w.heap.size A n zs)(hc:n<=c)(hm:c<=maxLen) :
  Calls Tryz.prog 6 #[.int .i64 t,.slice A n c] w λe w'=>e = .returned (.bool true)/\Below w.heap.size w w':=by
 have HAW:=hid (abP w he)
 have HZ:=hid hz
 unfold maxLen at hm
 clear he hz
 go_in
 go_wp2_with fail
 refine HAW.out.mono ?_
 rintro e w1 ⟨rfl,hb⟩
 have HB:=hid hb
 clear hb HAW
 go_wp2_with fail
 refine(aaJ _ _).mono ?_
 rintro e w2 ⟨rfl,rfl⟩
 go_wp2_with fail
 refine(abB A n c zs _ (abx (HZ.out.below HB.out) HB.out.size) hc zo).mono ?_
 rintro e w2 ⟨rfl,rfl⟩
 go_wp2_with fail
 refine(abd _ _).mono ?_
 rintro e w2 ⟨rfl,rfl⟩
 go_wp2_with fail
 refine(aa4 _ _).mono ?_
 rintro e w2 ⟨rfl,rfl⟩
 go_wp2_with fail
 refine(abe _).mono ?_
 rintro e w2 ⟨rfl,rfl⟩
 go_wp2_with fail
 refine(aaO _).mono ?_
 rintro e w2 ⟨rfl,rfl⟩
 go_wp2_with fail
 refine(aaP _ _).mono ?_
 rintro e w2 ⟨rfl,rfl⟩
 go_wp2_with fail
 refine(aaX _).mono ?_
 rintro e w2 ⟨rfl,rfl⟩
 go_wp2_with fail
 go_ret
 exact⟨rfl,HB.out⟩
end Pg
end Go.Proofs.YtbhnbcadgmagpaaGreatDoor
