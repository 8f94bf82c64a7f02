import Derived.Test.YtbhnbcadgmagpaaGreatDoorBih
import Derived.Test.YtbhnbcadgmagpaaGreatDoorJ1
import Derived.Test.YtbhnbcadgmagpaaGreatDoorJ9
import Derived.Test.YtbhnbcadgmagpaaGreatDoorJ29
import Derived.Test.YtbhnbcadgmagpaaGreatDoorJ30
import Derived.Test.YtbhnbcadgmagpaaGreatDoorJ3
import Derived.Test.YtbhnbcadgmagpaaGreatDoorRows
set_option linter.unusedVariables false
set_option linter.unusedSimpArgs false
set_option maxHeartbeats 8000000
set_option maxRecDepth 100000
namespace Go.Proofs.YtbhnbcadgmagpaaGreatDoor
open Go.ChangeShapes Go.WideShapes Go.ChangeAt Go.RowKit Go.aN Go.Shelf Go.Lib
namespace Ru
open aE (R gB known cg gb bU oD tT eY gY oE)
open aV (bY aj eX)
structure Env(w:World):Prop where
 ad:Ad.Env w
 tx:Tx.Env w
theorem Env.below{w w':World}(h:Env w)(hb:Below w.heap.size w w'):Env w':=⟨h.ad.below hb,h.tx.below hb⟩
theorem Env.alloc{w:World}(h:Env w)(o:Obj):Env (w.alloc o):=⟨h.ad.alloc o,h.tx.alloc o⟩
theorem below_drewN(w:World)(n:Nat):Below w.heap.size w (w.drewN n):=⟨rfl,rfl,rfl,Nat.le_refl _,λ_ _=>rfl⟩
theorem aA{w w1 w2:World}(h:Below w.heap.size w w1)(h2:Below w1.heap.size w1 w2):Below w.heap.size w w2:=h.trans (h2.mono h.size)
theorem ae(w:World)(o:Obj):Below w.heap.size w (w.alloc o):=(Below.refl _ _).alloc zl _
theorem bE(a b:Nat)(w:World) :
  Calls Tryz.prog 131 #[.agg #[.int .u16 (a:Int),.int .u16 (b:Int)]] w λe w'=>e = .returned (.bool (decide (a<=b)))/\Below w.heap.size w w':=by
 have HB:=hid (ae w (.cells #[.int .u16 (a:Int),.int .u16 (b:Int)] 78))
 go_in
 go_wp2_with fail
 go_ret
 exact⟨rfl,HB.out⟩
theorem rP(n:Nat)(hn:n<65536)(w:World)(he:Ad.Env w)(x:Int)(hx:x=(n:Int)) :
  Calls Tryz.prog 244 #[.int .i64 x] w λe w'=>e = .returned (.string ⟨(decDigits n).toArray⟩)/\Below w.heap.size w w':=by
 subst hx
 refine(Tryz.strconv_Itoa (n:Int) zo zo w he.dr).mono λe w' ⟨h1,k,os,h2⟩=>⟨?_,?_⟩
 ·rw[h1]
  have:itoa (n:Int)=decDigits n:=by unfold itoa;rw[if_neg zo];rfl
  rw[this]
 ·rw[h2];exact Ad.below_grow w k os
theorem qv{a b:List UInt8}(h:a=b):Ending.returned (.string ⟨a.toArray⟩) = .returned (.string ⟨b.toArray⟩):=by rw[h]
theorem LA{a b:Nat}(h : ¬(a=0/\b=65535))(h2:a=b):bU a b=decDigits a:=by unfold bU;rw[if_neg h,if_pos h2]
theorem LB{a b:Nat}(h : ¬(a=0/\b=65535))(h2:a≠b):bU a b=(decDigits a++[45])++decDigits b:=by unfold bU;rw[if_neg h,if_neg h2];simp
theorem iY(a b:Nat)(ha:a<65536)(hb:b<65536)(w:World)(he:Ad.Env w) :
  Calls Tryz.prog 219 #[.agg #[.int .u16 (a:Int),.int .u16 (b:Int)]] w λe w'=>e = .returned (.string ⟨(bU a b).toArray⟩)/\Below w.heap.size w w':=by
 have HB:=hid (ae w (.cells #[.int .u16 (a:Int),.int .u16 (b:Int)] 78))
 have HE:=hid he
 clear he
 by_cases h1:a=0/\b=65535
 ·obtain⟨rfl,rfl⟩:=h1;go_in;go_wp2_with fail;go_ret;exact⟨rfl,HB.out⟩
 ·by_cases h2:a=b
  ·have HS:=hid (LA h1 h2);subst h2;clear h1;have HI:=hid (λW (h:Below w.heap.size w W)=>rP a ha W (HE.out.below h) (a:Int) rfl);have hlt:(a:Int)<65536:=zo;go_in;by_cases h0:a=0
   ·subst h0;go_wp2_with fail;refine(HI.out _ HB.out).mono ?_;rintro e w1 ⟨rfl,aK⟩;have dF:=hid aK;have hc0:w1.cell? ⟨w.heap.size,0,none⟩=some (.int .u16 0):=(aK.cell zs).trans zs;have hc1:w1.cell? ⟨w.heap.size,1,none⟩=some (.int .u16 0):=(aK.cell zs).trans zs;clear aK;go_wp2_with fail;go_ret;exact⟨qv HS.out.symm,aA HB.out dF.out⟩
   ·have hd:((a:Int)==0)=false:=by rw[beq_eq_false_iff_ne];omega
    clear h0;go_wp2_with fail;refine(HI.out _ HB.out).mono ?_;rintro e w1 ⟨rfl,aK⟩;have dF:=hid aK;have hc0:w1.cell? ⟨w.heap.size,0,none⟩=some (.int .u16 (a:Int)):=(aK.cell zs).trans zs;have hc1:w1.cell? ⟨w.heap.size,1,none⟩=some (.int .u16 (a:Int)):=(aK.cell zs).trans zs;clear aK;go_wp2_with fail;go_ret;exact⟨qv HS.out.symm,aA HB.out dF.out⟩
  ·have HS:=hid (LB h1 h2);have HI:=hid (λW (h:Below w.heap.size w W)=>rP a ha W (HE.out.below h) (a:Int) rfl);have HJ:=hid (λW (h:Below w.heap.size w W)=>rP b hb W (HE.out.below h) (b:Int) rfl)
   have hab:((a:Int)==(b:Int))=false:=by rw[beq_eq_false_iff_ne];omega
   have l1:=aV.bO 4 a zo;have l2:=aV.bO 4 b zo;have Yj:=λW=>Ad.jB (P:=Tryz.prog) (decDigits a) [45] zo zs W;have Q6:=λW=>Ad.jB (P:=Tryz.prog) (decDigits a++[45]) (decDigits b) zt zo W;clear l1 l2;generalize decDigits a=da at *;generalize decDigits b=db at *;by_cases h0:a=0
   ·have hd0:((a:Int)==0)=true:=by rw[beq_iff_eq];omega
    have hd1:((b:Int)==65535)=false:=by rw[beq_eq_false_iff_ne];omega
    clear h0 h1 h2;go_in;go_wp2_with fail;refine(HI.out _ HB.out).mono ?_;rintro e w1 ⟨rfl,aK⟩;have dF:=hid (aA HB.out aK);have hc0:w1.cell? ⟨w.heap.size,0,none⟩=some (.int .u16 (a:Int)):=(aK.cell zs).trans zs;have hc1:w1.cell? ⟨w.heap.size,1,none⟩=some (.int .u16 (b:Int)):=(aK.cell zs).trans zs;clear aK;go_wp2_with fail;refine(HJ.out _ dF.out).mono ?_;rintro e w2 ⟨rfl,aZ⟩;have dG:=hid (aA dF.out aZ);clear aZ hc0 hc1;go_wp2_with fail;go_ret;exact⟨qv (by rw[HS.out];simp),dG.out⟩
   ·have hd0:((a:Int)==0)=false:=by rw[beq_eq_false_iff_ne];omega
    clear h0 h1 h2;go_in;go_wp2_with fail;refine(HI.out _ HB.out).mono ?_;rintro e w1 ⟨rfl,aK⟩;have dF:=hid (aA HB.out aK);have hc0:w1.cell? ⟨w.heap.size,0,none⟩=some (.int .u16 (a:Int)):=(aK.cell zs).trans zs;have hc1:w1.cell? ⟨w.heap.size,1,none⟩=some (.int .u16 (b:Int)):=(aK.cell zs).trans zs;clear aK;go_wp2_with fail;refine(HJ.out _ dF.out).mono ?_;rintro e w2 ⟨rfl,aZ⟩;have dG:=hid (aA dF.out aZ);clear aZ hc0 hc1;go_wp2_with fail;go_ret;exact⟨qv (by rw[HS.out];simp),dG.out⟩
abbrev cR(r:R):Array Value:=#[.bool r.acc,.int .u8 (r.pr:Int),.int .u32 (r.sa:Int),.int .i64 r.sb,.int .u32 (r.da:Int),.int .i64 r.db,.int .u16 (r.sl:Int),.int .u16 (r.sh:Int),.int .u16 (r.dl:Int),.int .u16 (r.dh:Int)]
structure eD(w:World)(g:Nat)(r:R)(W:World):Prop where
 blk:aF W g (cR r) 80
 az:Below w.heap.size w W
theorem eD.box(w:World)(r:R):eD w w.heap.size r (w.alloc (.cells (cR r) 80)):=⟨aF.box _ _ _,ae _ _⟩
theorem eD.next{w W W':World}{g:Nat}{r:R}(h:eD w g r W)(hb:Below W.heap.size W W'):eD w g r W':=⟨h.blk.next hb,aA h.az hb⟩
theorem eD.c0{w W:World}{g:Nat}{r:R}(h:eD w g r W):W.cell? ⟨g,0,none⟩=some (.bool r.acc):=h.blk.cell 0 _ rfl
theorem eD.c1{w W:World}{g:Nat}{r:R}(h:eD w g r W):W.cell? ⟨g,1,none⟩=some (.int .u8 (r.pr:Int)):=h.blk.cell 1 _ rfl
end Ru
namespace Ru
open aE (R gB known cg bU cI b9 vQ lV Aq Jt Ju)
open aV (bY)
open cC (sV mj)
theorem qw(s t:ByteArray):(s==t)=decide (s.data.toList=t.data.toList):=by
 rw[Bool.eq_iff_iff,MapKept.bytes_beq,decide_eq_true_iff];exact⟨λe=>by rw[e],λe=>Ad.PK e⟩
def lR(l:List UInt8):Nat:=(cg l).getD 0
def ey(l:List UInt8):Bool:=(cg l).isSome
theorem Oq(W:World):(zeroValue 5).run Tryz.prog W = .ok (.int .u8 0) W:=by
 obtain⟨i0,hi0,hz0,_,_⟩:=info_parts Ad.dy;simp[zeroValue,typeInfo,hi0,hz0]
theorem jl(s:ByteArray)(W:World)(b:Nat)(hb:W.heap[b]? = some (.map pm 4)) :
  (Instr.lookup 222 (.map (some b)) (.string s) true).run Tryz.prog W = .ok (.tuple #[.int .u8 (lR s.data.toList:Int),.bool (ey s.data.toList)]) W:=by
 have hf:∃a,Instr.findNow .string (.string s) pm.toList 0=some a/\((a=none/\cg s.data.toList=none)\/∃j p:Nat,a=some (j,.int .u8 (p:Int))/\cg s.data.toList=some p):=by
  have e1:(s==uT)=decide (s.data.toList=bY):=qw s uT;have e2:(s==ow)=decide (s.data.toList=Aq):=qw s ow;have e3:(s==zi)=decide (s.data.toList=Jt):=qw s zi;have e4:(s==BK)=decide (s.data.toList=Ju):=qw s BK;unfold cg;have ZN:pm.toList=[{ key:=.string uT,val:=.int .u8 0,born:=0 },{ key:=.string ow,val:=.int .u8 1,born:=1 },{ key:=.string zi,val:=.int .u8 6,born:=2 },{ key:=.string BK,val:=.int .u8 17,born:=3 }]:=rfl;rw[ZN];by_cases h1:s.data.toList=bY
  ·have b1:_=true:=e1.trans (decide_eq_true h1);rw[if_pos h1];exact⟨some (0,.int .u8 0),by simp only[Instr.findNow,Instr.sameNow,b1],.inr ⟨0,0,rfl,rfl⟩⟩
  ·have b1:_=false:=e1.trans (decide_eq_false h1);by_cases h2:s.data.toList=Aq
   ·have b2:_=true:=e2.trans (decide_eq_true h2);rw[if_neg h1,if_pos h2];exact⟨some (1,.int .u8 1),by simp only[Instr.findNow,Instr.sameNow,b1,b2],.inr ⟨1,1,rfl,rfl⟩⟩
   ·have b2:_=false:=e2.trans (decide_eq_false h2);by_cases h3:s.data.toList=Jt
    ·have b3:_=true:=e3.trans (decide_eq_true h3);rw[if_neg h1,if_neg h2,if_pos h3];exact⟨some (2,.int .u8 6),by simp only[Instr.findNow,Instr.sameNow,b1,b2,b3],.inr ⟨2,6,rfl,rfl⟩⟩
    ·have b3:_=false:=e3.trans (decide_eq_false h3);by_cases h4:s.data.toList=Ju
     ·have b4:_=true:=e4.trans (decide_eq_true h4);rw[if_neg h1,if_neg h2,if_neg h3,if_pos h4];exact⟨some (3,.int .u8 17),by simp only[Instr.findNow,Instr.sameNow,b1,b2,b3,b4],.inr ⟨3,17,rfl,rfl⟩⟩
     ·have b4:_=false:=e4.trans (decide_eq_false h4);rw[if_neg h1,if_neg h2,if_neg h3,if_neg h4];exact⟨none,by simp only[Instr.findNow,Instr.sameNow,b1,b2,b3,b4],.inl ⟨rfl,rfl⟩⟩
 obtain⟨a,ha,hcase⟩:=hf
 have hk:=MapKept.run_findKey (P:=Tryz.prog) (w:=W) Tryz.underlying9 ha
 have Yl:=MapKept.run_checkKey (P:=Tryz.prog) (w:=W) Tryz.underlying9 (k:=.string s) trivial
 rcases hcase with⟨rfl,hp⟩ | ⟨j,p,rfl,hp⟩
 ·simp[Instr.lookup,run_underlying Tryz.underlying222,MapKept.run_getObj_map hb,Yl,hk,Oq,Result.andThen,lR,ey,hp]
 ·simp[Instr.lookup,run_underlying Tryz.underlying222,MapKept.run_getObj_map hb,Yl,hk,Result.andThen,lR,ey,hp]
def BR(o:Option Nat):Value:=match o with
 | some n=>.tuple #[.int .u16 (n:Int),.bool true]
 | none=>.tuple #[.int .u16 0,.bool false]
theorem bH(l:List UInt8)(w:World)(hl:l.length<=1000000) :
  Calls Tryz.prog 218 #[.string ⟨l.toArray⟩] w λe w'=>e = .returned (BR (b9 l))/\w'=w:=by
 have e0:(⟨l.toArray⟩:ByteArray).data.toList=l:=zs
 have HN:=hid (Tx.cW ⟨l.toArray⟩ w (by unfold maxLen;simp[ByteArray.size];omega))
 rw[e0]at HN
 obtain⟨V,hV⟩:∃V,BR (b9 l)=V:=⟨_,rfl⟩
 rw[hV]
 unfold aE.b9 at hV
 clear e0 hl
 cases hk:sV l with
 | false =>
  rw[hk]at HN hV
  have HP:Hid (V = .tuple #[.int .u16 0,.bool false]):=by show _=_;rw[← hV,if_neg zs];rfl
  clear hk hV
  generalize mj l=n at *
  go_in
  go_wp2_with fail
  go_at_call 268
  refine HN.out.mono ?_
  rintro e w1 ⟨rfl,rfl⟩
  go_wp2_with fail
  go_ret2
  exact⟨by rw[HP.out];rfl,rfl⟩
 | true =>
  rw[hk]at HN hV
  clear hk
  generalize mj l=n at *
  by_cases h:n<=65535
  ·have HP:Hid (V = .tuple #[.int .u16 (n:Int),.bool true]):=by show _=_;rw[← hV,if_pos ⟨rfl,h⟩];rfl
   have hc:IntKind.u16.wrap (n:Int)=(n:Int):=IntWalk.u16_in _ zo;clear hV;go_in;go_wp2_with fail;refine HN.out.mono ?_;rintro e w1 ⟨rfl,rfl⟩;go_wp2_with fail;go_ret2;exact⟨by rw[HP.out];rfl,rfl⟩
  ·have HP:Hid (V = .tuple #[.int .u16 0,.bool false]):=by show _=_;rw[← hV,if_neg (λe=>h e.2)];rfl
   clear hV;go_in;go_wp2_with fail;refine HN.out.mono ?_;rintro e w1 ⟨rfl,rfl⟩;go_wp2_with fail;go_ret2;exact⟨by rw[HP.out];rfl,rfl⟩
theorem Ou(c:UInt8)(l:List UInt8):(cut l [c]).1.length<=l.length/\(cut l [c]).2.1.length<=l.length:=by
 by_cases h:c∈l
 ·obtain⟨p,r,e,hp⟩:=aV.yj c l h;rw[e,aE.Ez c p r hp];simp;omega
 ·rw[aE.As c l h];simp
theorem jC:BR none = .tuple #[.int .u16 0,.bool false]:=rfl
theorem bW(n:Nat):BR (some n) = .tuple #[.int .u16 (n:Int),.bool true]:=rfl
theorem DK(o:Option Nat):∃(x:Int) (y:Bool),BR o = .tuple #[.int .u16 x,.bool y]:=by
 cases o with
 | none=>exact⟨_,_,rfl⟩
 | some n=>exact⟨_,_,rfl⟩
def bR(o:Option (Nat×Nat)):Value:=match o with
 | some (a,b)=>.tuple #[.agg #[.int .u16 (a:Int),.int .u16 (b:Int)],.bool true]
 | none=>.tuple #[.agg #[.int .u16 0,.int .u16 0],.bool false]
structure oO(w:World)(g:Nat)(x y:Value)(W:World):Prop where
 blk:aF W g #[x,y] 78
 az:Below w.heap.size w W
 le:w.heap.size<=g
theorem oO.box{w W:World}(x y:Value)(hb:Below w.heap.size w W):oO w W.heap.size x y (W.alloc (.cells #[x,y] 78)):=⟨aF.box _ _ _,hb.alloc hb.size _,hb.size⟩
theorem oO.next{w W W':World}{g:Nat}{x y:Value}(h:oO w g x y W)(hb:Below W.heap.size W W'):oO w g x y W':=⟨h.blk.next hb,aA h.az hb,h.le⟩
theorem oO.c0{w W:World}{g:Nat}{x y:Value}(h:oO w g x y W):W.cell? ⟨g,0,none⟩=some x:=h.blk.cell 0 _ rfl
theorem oO.c1{w W:World}{g:Nat}{x y:Value}(h:oO w g x y W):W.cell? ⟨g,1,none⟩=some y:=h.blk.cell 1 _ rfl
theorem oO.f{w W:World}{g:Nat}{x y:Value}(h:oO w g x y W)(i:Nat):W.frozen? ⟨g,i,none⟩=false:=h.blk.frozen i
theorem oO.put{w W:World}{g:Nat}{x y:Value}(h:oO w g x y W)(u v:Value):oO w g u v ((W.setCell ⟨g,0,none⟩ u).setCell ⟨g,1,none⟩ v) :=
 ⟨(h.blk.set 0 u).set' 1 v rfl,(h.az.setCell (p:=⟨g,0,none⟩) h.le u).setCell (p:=⟨g,1,none⟩) h.le v,h.le⟩
theorem fQ(l:List UInt8)(hl:l.length<=4096)(w:World)(he:Ad.Env w) :
  Calls Tryz.prog 213 #[.string ⟨l.toArray⟩,.string ⟨#[45]⟩] w λe w'=>e = .returned (.tuple #[.string ⟨(cut l [45]).1.toArray⟩,.string ⟨(cut l [45]).2.1.toArray⟩,.bool (cut l [45]).2.2])/\∃k,w'=w.drewN k:=by
 obtain⟨m,hm⟩:=he.max
 have h:=Tryz.strings_Cut ⟨l.toArray⟩ ⟨#[45]⟩ m w (by simp[ByteArray.size];omega) hm
 have e:(⟨#[45]⟩:ByteArray).data.toList=[45]:=rfl
 have e0:(⟨l.toArray⟩:ByteArray).data.toList=l:=zs
 rw[e,e0]at h
 exact h
theorem vf(w:World):Calls Tryz.prog 162 #[.string ⟨#[97,110,121]⟩] w λe w'=>e = .returned (bR (some (0,65535)))/\Below w.heap.size w w':=by
 have HZ:=hid (oO.box (.int .u16 0) (.int .u16 0) (Below.refl w.heap.size w));go_in;go_wp2_with fail;exact bodyPost_ret (v:=bR (some (0,65535))) (by simp[results,Tryz.results162,go_sem,bR]) rfl ⟨rfl,ae _ _⟩
theorem BS(l p q:List UInt8)(hl:l.length<=4096)(hne:l≠bY)(w:World)(he:Ad.Env w)(hp:p.length<=4096)(hq:q.length<=4096)(hc:cut l [45]=(p,q,true))(h1:b9 p=none) :
  Calls Tryz.prog 162 #[.string ⟨l.toArray⟩] w λe w'=>e = .returned (bR none)/\Below w.heap.size w w':=by
 have ht:(l==[97,110,121])=false:=by simpa[bY]using hne
 have HZ:=hid (oO.box (.int .u16 0) (.int .u16 0) (Below.refl w.heap.size w))
 have HC:=hid (fQ l hl (w.alloc (.cells #[.int .u16 0,.int .u16 0] 78)) (he.alloc _))
 rw[hc]at HC
 have HL:=hid (λW=>bH p W zo)
 rw[h1,jC]at HL
 have HH:=hid (λW=>bH q W zo)
 obtain⟨x2,y2,e2⟩:=DK (b9 q)
 rw[e2]at HH
 clear e2
 clear hl hne he hp hq hc h1
 go_in
 go_wp2_with fail
 refine HC.out.mono ?_
 rintro e w1 ⟨rfl,k,rfl⟩
 have gN:=hid (HZ.out.next (below_drewN _ k))
 clear HZ HC
 generalize (w.alloc (.cells #[.int .u16 0,.int .u16 0] 78)).drewN k=w1 at *
 go_wp2_with fail
 refine(HL.out _).mono ?_
 rintro e w2 ⟨rfl,rfl⟩
 go_wp2_with fail
 refine(HH.out _).mono ?_
 rintro e w3 ⟨rfl,rfl⟩
 have cK:=hid (gN.out.next (ae w3 (.cells #[.int .u16 0,.int .u16 x2] 78)))
 have c0:=cK.out.c0
 have c1:=cK.out.c1
 have f0:=cK.out.f 0
 have f1:=cK.out.f 1
 go_wp2_with fail
 have HY:=hid (cK.out.put (.int .u16 0) (.int .u16 0))
 have r0:=HY.out.c0
 have r1:=HY.out.c1
 exact bodyPost_ret (v:=bR none) (by simp[results,Tryz.results162,go_sem,bR,r0,r1]) rfl ⟨rfl,HY.out.az⟩
theorem BU(l p q:List UInt8)(hl:l.length<=4096)(hne:l≠bY)(w:World)(he:Ad.Env w)(hp:p.length<=4096)(hq:q.length<=4096)(hc:cut l [45]=(p,q,true))(a:Nat)(h1:b9 p=some a)(h2:b9 q=none) :
  Calls Tryz.prog 162 #[.string ⟨l.toArray⟩] w λe w'=>e = .returned (bR none)/\Below w.heap.size w w':=by
 have ht:(l==[97,110,121])=false:=by simpa[bY]using hne
 have HZ:=hid (oO.box (.int .u16 0) (.int .u16 0) (Below.refl w.heap.size w))
 have HC:=hid (fQ l hl (w.alloc (.cells #[.int .u16 0,.int .u16 0] 78)) (he.alloc _))
 rw[hc]at HC
 have HL:=hid (λW=>bH p W zo)
 rw[h1,bW]at HL
 have HH:=hid (λW=>bH q W zo)
 rw[h2,jC]at HH
 clear hl hne he hp hq hc h1 h2
 go_in
 go_wp2_with fail
 refine HC.out.mono ?_
 rintro e w1 ⟨rfl,k,rfl⟩
 have gN:=hid (HZ.out.next (below_drewN _ k))
 clear HZ HC
 generalize (w.alloc (.cells #[.int .u16 0,.int .u16 0] 78)).drewN k=w1 at *
 go_wp2_with fail
 refine(HL.out _).mono ?_
 rintro e w2 ⟨rfl,rfl⟩
 go_wp2_with fail
 refine(HH.out _).mono ?_
 rintro e w3 ⟨rfl,rfl⟩
 have cK:=hid (gN.out.next (ae w3 (.cells #[.int .u16 (a:Int),.int .u16 0] 78)))
 have c0:=cK.out.c0
 have c1:=cK.out.c1
 have f0:=cK.out.f 0
 have f1:=cK.out.f 1
 go_wp2_with fail
 have HY:=hid (cK.out.put (.int .u16 0) (.int .u16 0))
 have r0:=HY.out.c0
 have r1:=HY.out.c1
 exact bodyPost_ret (v:=bR none) (by simp[results,Tryz.results162,go_sem,bR,r0,r1]) rfl ⟨rfl,HY.out.az⟩
theorem BV(l p q:List UInt8)(hl:l.length<=4096)(hne:l≠bY)(w:World)(he:Ad.Env w)(hp:p.length<=4096)(hq:q.length<=4096)(hc:cut l [45]=(p,q,true))(a b:Nat)(h1:b9 p=some a)(h2:b9 q=some b)(h3 : ¬a<=b) :
  Calls Tryz.prog 162 #[.string ⟨l.toArray⟩] w λe w'=>e = .returned (bR none)/\Below w.heap.size w w':=by
 have ht:(l==[97,110,121])=false:=by simpa[bY]using hne
 have HZ:=hid (oO.box (.int .u16 0) (.int .u16 0) (Below.refl w.heap.size w))
 have HC:=hid (fQ l hl (w.alloc (.cells #[.int .u16 0,.int .u16 0] 78)) (he.alloc _))
 rw[hc]at HC
 have HL:=hid (λW=>bH p W zo)
 rw[h1,bW]at HL
 have HH:=hid (λW=>bH q W zo)
 rw[h2,bW]at HH
 have b1:a<=65535:=(aE.bM.1 h1).2
 have b2:b<=65535:=(aE.bM.1 h2).2
 have HS:=hid (λW=>bE a b W)
 rw[decide_eq_false h3]at HS
 clear hl hne he hp hq hc h1 h2 h3
 go_in
 go_wp2_with fail
 refine HC.out.mono ?_
 rintro e w1 ⟨rfl,k,rfl⟩
 have gN:=hid (HZ.out.next (below_drewN _ k))
 clear HZ HC
 generalize (w.alloc (.cells #[.int .u16 0,.int .u16 0] 78)).drewN k=w1 at *
 go_wp2_with fail
 refine(HL.out _).mono ?_
 rintro e w2 ⟨rfl,rfl⟩
 go_wp2_with fail
 refine(HH.out _).mono ?_
 rintro e w3 ⟨rfl,rfl⟩
 have HX:=hid (oO.box (.int .u16 (a:Int)) (.int .u16 (b:Int)) gN.out.az)
 have cK:=hid (gN.out.next (ae w3 (.cells #[.int .u16 (a:Int),.int .u16 (b:Int)] 78)))
 go_wp2_with fail
 refine(HS.out _).mono ?_
 rintro e w4 ⟨rfl,hb⟩
 have eT:=hid (cK.out.next hb)
 have k8:=hid (HX.out.next hb)
 clear hb cK HX
 have c0:=eT.out.c0
 have c1:=eT.out.c1
 have f0:=eT.out.f 0
 have f1:=eT.out.f 1
 go_wp2_with fail
 have HY:=hid (eT.out.put (.int .u16 0) (.int .u16 0))
 have r0:=HY.out.c0
 have r1:=HY.out.c1
 exact bodyPost_ret (v:=bR none) (by simp[results,Tryz.results162,go_sem,bR,r0,r1]) rfl ⟨rfl,HY.out.az⟩
theorem BW(l p q:List UInt8)(hl:l.length<=4096)(hne:l≠bY)(w:World)(he:Ad.Env w)(hp:p.length<=4096)(hq:q.length<=4096)(hc:cut l [45]=(p,q,true))(a b:Nat)(h1:b9 p=some a)(h2:b9 q=some b)(h3:a<=b)(h4:bU a b≠l) :
  Calls Tryz.prog 162 #[.string ⟨l.toArray⟩] w λe w'=>e = .returned (bR none)/\Below w.heap.size w w':=by
 have ht:(l==[97,110,121])=false:=by simpa[bY]using hne
 have HZ:=hid (oO.box (.int .u16 0) (.int .u16 0) (Below.refl w.heap.size w))
 have HC:=hid (fQ l hl (w.alloc (.cells #[.int .u16 0,.int .u16 0] 78)) (he.alloc _))
 rw[hc]at HC
 have HL:=hid (λW=>bH p W zo)
 rw[h1,bW]at HL
 have HH:=hid (λW=>bH q W zo)
 rw[h2,bW]at HH
 have b1:a<=65535:=(aE.bM.1 h1).2
 have b2:b<=65535:=(aE.bM.1 h2).2
 have HS:=hid (λW=>bE a b W)
 rw[decide_eq_true h3]at HS
 have HW:=hid (λW (h:Below w.heap.size w W)=>iY a b zo zo W (he.below h))
 have CJ:(bU a b==l)=false:=by rw[beq_eq_false_iff_ne];exact h4
 clear h4
 clear hl hne he hp hq hc h1 h2 h3
 go_in
 go_wp2_with fail
 refine HC.out.mono ?_
 rintro e w1 ⟨rfl,k,rfl⟩
 have gN:=hid (HZ.out.next (below_drewN _ k))
 clear HZ HC
 generalize (w.alloc (.cells #[.int .u16 0,.int .u16 0] 78)).drewN k=w1 at *
 go_wp2_with fail
 refine(HL.out _).mono ?_
 rintro e w2 ⟨rfl,rfl⟩
 go_wp2_with fail
 refine(HH.out _).mono ?_
 rintro e w3 ⟨rfl,rfl⟩
 have HX:=hid (oO.box (.int .u16 (a:Int)) (.int .u16 (b:Int)) gN.out.az)
 have cK:=hid (gN.out.next (ae w3 (.cells #[.int .u16 (a:Int),.int .u16 (b:Int)] 78)))
 go_wp2_with fail
 refine(HS.out _).mono ?_
 rintro e w4 ⟨rfl,hb⟩
 have eT:=hid (cK.out.next hb)
 have k8:=hid (HX.out.next hb)
 clear hb cK HX
 have g0:=k8.out.c0
 have g1:=k8.out.c1
 go_wp2_with fail
 refine(HW.out _ eT.out.az).mono ?_
 rintro e w5 ⟨rfl,hb⟩
 have jK:=hid (eT.out.next hb)
 have Q9:=hid (k8.out.next hb)
 clear hb eT k8 g0 g1
 have c0:=jK.out.c0
 have c1:=jK.out.c1
 have f0:=jK.out.f 0
 have f1:=jK.out.f 1
 go_wp2_with fail
 have HY:=hid (jK.out.put (.int .u16 0) (.int .u16 0))
 have r0:=HY.out.c0
 have r1:=HY.out.c1
 exact bodyPost_ret (v:=bR none) (by simp[results,Tryz.results162,go_sem,bR,r0,r1]) rfl ⟨rfl,HY.out.az⟩
theorem BX(l p q:List UInt8)(hl:l.length<=4096)(hne:l≠bY)(w:World)(he:Ad.Env w)(hp:p.length<=4096)(hq:q.length<=4096)(hc:cut l [45]=(p,q,true))(a b:Nat)(h1:b9 p=some a)(h2:b9 q=some b)(h3:a<=b)(h4:bU a b=l) :
  Calls Tryz.prog 162 #[.string ⟨l.toArray⟩] w λe w'=>e = .returned (bR (some (a,b)))/\Below w.heap.size w w':=by
 have ht:(l==[97,110,121])=false:=by simpa[bY]using hne
 have HZ:=hid (oO.box (.int .u16 0) (.int .u16 0) (Below.refl w.heap.size w))
 have HC:=hid (fQ l hl (w.alloc (.cells #[.int .u16 0,.int .u16 0] 78)) (he.alloc _))
 rw[hc]at HC
 have HL:=hid (λW=>bH p W zo)
 rw[h1,bW]at HL
 have HH:=hid (λW=>bH q W zo)
 rw[h2,bW]at HH
 have b1:a<=65535:=(aE.bM.1 h1).2
 have b2:b<=65535:=(aE.bM.1 h2).2
 have HS:=hid (λW=>bE a b W)
 rw[decide_eq_true h3]at HS
 have HW:=hid (λW (h:Below w.heap.size w W)=>iY a b zo zo W (he.below h))
 have CJ:(bU a b==l)=true:=by rw[beq_iff_eq];exact h4
 clear h4
 clear hl hne he hp hq hc h1 h2 h3
 go_in
 go_wp2_with fail
 refine HC.out.mono ?_
 rintro e w1 ⟨rfl,k,rfl⟩
 have gN:=hid (HZ.out.next (below_drewN _ k))
 clear HZ HC
 generalize (w.alloc (.cells #[.int .u16 0,.int .u16 0] 78)).drewN k=w1 at *
 go_wp2_with fail
 refine(HL.out _).mono ?_
 rintro e w2 ⟨rfl,rfl⟩
 go_wp2_with fail
 refine(HH.out _).mono ?_
 rintro e w3 ⟨rfl,rfl⟩
 have HX:=hid (oO.box (.int .u16 (a:Int)) (.int .u16 (b:Int)) gN.out.az)
 have cK:=hid (gN.out.next (ae w3 (.cells #[.int .u16 (a:Int),.int .u16 (b:Int)] 78)))
 go_wp2_with fail
 refine(HS.out _).mono ?_
 rintro e w4 ⟨rfl,hb⟩
 have eT:=hid (cK.out.next hb)
 have k8:=hid (HX.out.next hb)
 clear hb cK HX
 have g0:=k8.out.c0
 have g1:=k8.out.c1
 go_wp2_with fail
 refine(HW.out _ eT.out.az).mono ?_
 rintro e w5 ⟨rfl,hb⟩
 have jK:=hid (eT.out.next hb)
 have Q9:=hid (k8.out.next hb)
 clear hb eT k8 g0 g1
 have g0:=Q9.out.c0
 have g1:=Q9.out.c1
 have c0:=jK.out.c0
 have c1:=jK.out.c1
 have f0:=jK.out.f 0
 have f1:=jK.out.f 1
 go_wp2_with fail
 have HY:=hid (jK.out.put (.int .u16 (a:Int)) (.int .u16 (b:Int)))
 have r0:=HY.out.c0
 have r1:=HY.out.c1
 exact bodyPost_ret (v:=bR (some (a,b))) (by simp[results,Tryz.results162,go_sem,bR,r0,r1]) rfl ⟨rfl,HY.out.az⟩
theorem zu(l p q:List UInt8)(hl:l.length<=4096)(hne:l≠bY)(w:World)(he:Ad.Env w)(hp:p.length<=4096)(hq:q.length<=4096)(hc:cut l [45]=(p,q,false))(h1:b9 p=none) :
  Calls Tryz.prog 162 #[.string ⟨l.toArray⟩] w λe w'=>e = .returned (bR none)/\Below w.heap.size w w':=by
 have ht:(l==[97,110,121])=false:=by simpa[bY]using hne
 have HZ:=hid (oO.box (.int .u16 0) (.int .u16 0) (Below.refl w.heap.size w))
 have HC:=hid (fQ l hl (w.alloc (.cells #[.int .u16 0,.int .u16 0] 78)) (he.alloc _))
 rw[hc]at HC
 have HL:=hid (λW=>bH p W zo)
 rw[h1,jC]at HL
 have HH:=hid (λW=>bH p W zo)
 rw[h1,jC]at HH
 clear hl hne he hp hq hc h1
 go_in
 go_wp2_with fail
 refine HC.out.mono ?_
 rintro e w1 ⟨rfl,k,rfl⟩
 have gN:=hid (HZ.out.next (below_drewN _ k))
 clear HZ HC
 generalize (w.alloc (.cells #[.int .u16 0,.int .u16 0] 78)).drewN k=w1 at *
 go_wp2_with fail
 refine(HL.out _).mono ?_
 rintro e w2 ⟨rfl,rfl⟩
 go_wp2_with fail
 refine(HH.out _).mono ?_
 rintro e w3 ⟨rfl,rfl⟩
 have cK:=hid (gN.out.next (ae w3 (.cells #[.int .u16 0,.int .u16 0] 78)))
 have c0:=cK.out.c0
 have c1:=cK.out.c1
 have f0:=cK.out.f 0
 have f1:=cK.out.f 1
 go_wp2_with fail
 have HY:=hid (cK.out.put (.int .u16 0) (.int .u16 0))
 have r0:=HY.out.c0
 have r1:=HY.out.c1
 exact bodyPost_ret (v:=bR none) (by simp[results,Tryz.results162,go_sem,bR,r0,r1]) rfl ⟨rfl,HY.out.az⟩
theorem zv(l p q:List UInt8)(hl:l.length<=4096)(hne:l≠bY)(w:World)(he:Ad.Env w)(hp:p.length<=4096)(hq:q.length<=4096)(hc:cut l [45]=(p,q,false))(a:Nat)(h1:b9 p=some a)(h2:b9 p=none) :
  Calls Tryz.prog 162 #[.string ⟨l.toArray⟩] w λe w'=>e = .returned (bR none)/\Below w.heap.size w w':=by
 have ht:(l==[97,110,121])=false:=by simpa[bY]using hne
 have HZ:=hid (oO.box (.int .u16 0) (.int .u16 0) (Below.refl w.heap.size w))
 have HC:=hid (fQ l hl (w.alloc (.cells #[.int .u16 0,.int .u16 0] 78)) (he.alloc _))
 rw[hc]at HC
 have HL:=hid (λW=>bH p W zo)
 rw[h1,bW]at HL
 have HH:=hid (λW=>bH p W zo)
 rw[h2,jC]at HH
 clear hl hne he hp hq hc h1 h2
 go_in
 go_wp2_with fail
 refine HC.out.mono ?_
 rintro e w1 ⟨rfl,k,rfl⟩
 have gN:=hid (HZ.out.next (below_drewN _ k))
 clear HZ HC
 generalize (w.alloc (.cells #[.int .u16 0,.int .u16 0] 78)).drewN k=w1 at *
 go_wp2_with fail
 refine(HL.out _).mono ?_
 rintro e w2 ⟨rfl,rfl⟩
 go_wp2_with fail
 refine(HH.out _).mono ?_
 rintro e w3 ⟨rfl,rfl⟩
 have cK:=hid (gN.out.next (ae w3 (.cells #[.int .u16 (a:Int),.int .u16 0] 78)))
 have c0:=cK.out.c0
 have c1:=cK.out.c1
 have f0:=cK.out.f 0
 have f1:=cK.out.f 1
 go_wp2_with fail
 have HY:=hid (cK.out.put (.int .u16 0) (.int .u16 0))
 have r0:=HY.out.c0
 have r1:=HY.out.c1
 exact bodyPost_ret (v:=bR none) (by simp[results,Tryz.results162,go_sem,bR,r0,r1]) rfl ⟨rfl,HY.out.az⟩
theorem aaN(l p q:List UInt8)(hl:l.length<=4096)(hne:l≠bY)(w:World)(he:Ad.Env w)(hp:p.length<=4096)(hq:q.length<=4096)(hc:cut l [45]=(p,q,false))(a b:Nat)(h1:b9 p=some a)(h2:b9 p=some b)(h3 : ¬a<=b) :
  Calls Tryz.prog 162 #[.string ⟨l.toArray⟩] w λe w'=>e = .returned (bR none)/\Below w.heap.size w w':=by
 have ht:(l==[97,110,121])=false:=by simpa[bY]using hne
 have HZ:=hid (oO.box (.int .u16 0) (.int .u16 0) (Below.refl w.heap.size w))
 have HC:=hid (fQ l hl (w.alloc (.cells #[.int .u16 0,.int .u16 0] 78)) (he.alloc _))
 rw[hc]at HC
 have HL:=hid (λW=>bH p W zo)
 rw[h1,bW]at HL
 have HH:=hid (λW=>bH p W zo)
 rw[h2,bW]at HH
 have b1:a<=65535:=(aE.bM.1 h1).2
 have b2:b<=65535:=(aE.bM.1 h2).2
 have HS:=hid (λW=>bE a b W)
 rw[decide_eq_false h3]at HS
 clear hl hne he hp hq hc h1 h2 h3
 go_in
 go_wp2_with fail
 refine HC.out.mono ?_
 rintro e w1 ⟨rfl,k,rfl⟩
 have gN:=hid (HZ.out.next (below_drewN _ k))
 clear HZ HC
 generalize (w.alloc (.cells #[.int .u16 0,.int .u16 0] 78)).drewN k=w1 at *
 go_wp2_with fail
 refine(HL.out _).mono ?_
 rintro e w2 ⟨rfl,rfl⟩
 go_wp2_with fail
 refine(HH.out _).mono ?_
 rintro e w3 ⟨rfl,rfl⟩
 have HX:=hid (oO.box (.int .u16 (a:Int)) (.int .u16 (b:Int)) gN.out.az)
 have cK:=hid (gN.out.next (ae w3 (.cells #[.int .u16 (a:Int),.int .u16 (b:Int)] 78)))
 go_wp2_with fail
 refine(HS.out _).mono ?_
 rintro e w4 ⟨rfl,hb⟩
 have eT:=hid (cK.out.next hb)
 have k8:=hid (HX.out.next hb)
 clear hb cK HX
 have c0:=eT.out.c0
 have c1:=eT.out.c1
 have f0:=eT.out.f 0
 have f1:=eT.out.f 1
 go_wp2_with fail
 have HY:=hid (eT.out.put (.int .u16 0) (.int .u16 0))
 have r0:=HY.out.c0
 have r1:=HY.out.c1
 exact bodyPost_ret (v:=bR none) (by simp[results,Tryz.results162,go_sem,bR,r0,r1]) rfl ⟨rfl,HY.out.az⟩
theorem zx(l p q:List UInt8)(hl:l.length<=4096)(hne:l≠bY)(w:World)(he:Ad.Env w)(hp:p.length<=4096)(hq:q.length<=4096)(hc:cut l [45]=(p,q,false))(a b:Nat)(h1:b9 p=some a)(h2:b9 p=some b)(h3:a<=b)(h4:bU a b≠l) :
  Calls Tryz.prog 162 #[.string ⟨l.toArray⟩] w λe w'=>e = .returned (bR none)/\Below w.heap.size w w':=by
 have ht:(l==[97,110,121])=false:=by simpa[bY]using hne
 have HZ:=hid (oO.box (.int .u16 0) (.int .u16 0) (Below.refl w.heap.size w))
 have HC:=hid (fQ l hl (w.alloc (.cells #[.int .u16 0,.int .u16 0] 78)) (he.alloc _))
 rw[hc]at HC
 have HL:=hid (λW=>bH p W zo)
 rw[h1,bW]at HL
 have HH:=hid (λW=>bH p W zo)
 rw[h2,bW]at HH
 have b1:a<=65535:=(aE.bM.1 h1).2
 have b2:b<=65535:=(aE.bM.1 h2).2
 have HS:=hid (λW=>bE a b W)
 rw[decide_eq_true h3]at HS
 have HW:=hid (λW (h:Below w.heap.size w W)=>iY a b zo zo W (he.below h))
 have CJ:(bU a b==l)=false:=by rw[beq_eq_false_iff_ne];exact h4
 clear h4
 clear hl hne he hp hq hc h1 h2 h3
 go_in
 go_wp2_with fail
 refine HC.out.mono ?_
 rintro e w1 ⟨rfl,k,rfl⟩
 have gN:=hid (HZ.out.next (below_drewN _ k))
 clear HZ HC
 generalize (w.alloc (.cells #[.int .u16 0,.int .u16 0] 78)).drewN k=w1 at *
 go_wp2_with fail
 refine(HL.out _).mono ?_
 rintro e w2 ⟨rfl,rfl⟩
 go_wp2_with fail
 refine(HH.out _).mono ?_
 rintro e w3 ⟨rfl,rfl⟩
 have HX:=hid (oO.box (.int .u16 (a:Int)) (.int .u16 (b:Int)) gN.out.az)
 have cK:=hid (gN.out.next (ae w3 (.cells #[.int .u16 (a:Int),.int .u16 (b:Int)] 78)))
 go_wp2_with fail
 refine(HS.out _).mono ?_
 rintro e w4 ⟨rfl,hb⟩
 have eT:=hid (cK.out.next hb)
 have k8:=hid (HX.out.next hb)
 clear hb cK HX
 have g0:=k8.out.c0
 have g1:=k8.out.c1
 go_wp2_with fail
 refine(HW.out _ eT.out.az).mono ?_
 rintro e w5 ⟨rfl,hb⟩
 have jK:=hid (eT.out.next hb)
 have Q9:=hid (k8.out.next hb)
 clear hb eT k8 g0 g1
 have c0:=jK.out.c0
 have c1:=jK.out.c1
 have f0:=jK.out.f 0
 have f1:=jK.out.f 1
 go_wp2_with fail
 have HY:=hid (jK.out.put (.int .u16 0) (.int .u16 0))
 have r0:=HY.out.c0
 have r1:=HY.out.c1
 exact bodyPost_ret (v:=bR none) (by simp[results,Tryz.results162,go_sem,bR,r0,r1]) rfl ⟨rfl,HY.out.az⟩
theorem zy(l p q:List UInt8)(hl:l.length<=4096)(hne:l≠bY)(w:World)(he:Ad.Env w)(hp:p.length<=4096)(hq:q.length<=4096)(hc:cut l [45]=(p,q,false))(a b:Nat)(h1:b9 p=some a)(h2:b9 p=some b)(h3:a<=b)(h4:bU a b=l) :
  Calls Tryz.prog 162 #[.string ⟨l.toArray⟩] w λe w'=>e = .returned (bR (some (a,b)))/\Below w.heap.size w w':=by
 have ht:(l==[97,110,121])=false:=by simpa[bY]using hne
 have HZ:=hid (oO.box (.int .u16 0) (.int .u16 0) (Below.refl w.heap.size w))
 have HC:=hid (fQ l hl (w.alloc (.cells #[.int .u16 0,.int .u16 0] 78)) (he.alloc _))
 rw[hc]at HC
 have HL:=hid (λW=>bH p W zo)
 rw[h1,bW]at HL
 have HH:=hid (λW=>bH p W zo)
 rw[h2,bW]at HH
 have b1:a<=65535:=(aE.bM.1 h1).2
 have b2:b<=65535:=(aE.bM.1 h2).2
 have HS:=hid (λW=>bE a b W)
 rw[decide_eq_true h3]at HS
 have HW:=hid (λW (h:Below w.heap.size w W)=>iY a b zo zo W (he.below h))
 have CJ:(bU a b==l)=true:=by rw[beq_iff_eq];exact h4
 clear h4
 clear hl hne he hp hq hc h1 h2 h3
 go_in
 go_wp2_with fail
 refine HC.out.mono ?_
 rintro e w1 ⟨rfl,k,rfl⟩
 have gN:=hid (HZ.out.next (below_drewN _ k))
 clear HZ HC
 generalize (w.alloc (.cells #[.int .u16 0,.int .u16 0] 78)).drewN k=w1 at *
 go_wp2_with fail
 refine(HL.out _).mono ?_
 rintro e w2 ⟨rfl,rfl⟩
 go_wp2_with fail
 refine(HH.out _).mono ?_
 rintro e w3 ⟨rfl,rfl⟩
 have HX:=hid (oO.box (.int .u16 (a:Int)) (.int .u16 (b:Int)) gN.out.az)
 have cK:=hid (gN.out.next (ae w3 (.cells #[.int .u16 (a:Int),.int .u16 (b:Int)] 78)))
 go_wp2_with fail
 refine(HS.out _).mono ?_
 rintro e w4 ⟨rfl,hb⟩
 have eT:=hid (cK.out.next hb)
 have k8:=hid (HX.out.next hb)
 clear hb cK HX
 have g0:=k8.out.c0
 have g1:=k8.out.c1
 go_wp2_with fail
 refine(HW.out _ eT.out.az).mono ?_
 rintro e w5 ⟨rfl,hb⟩
 have jK:=hid (eT.out.next hb)
 have Q9:=hid (k8.out.next hb)
 clear hb eT k8 g0 g1
 have g0:=Q9.out.c0
 have g1:=Q9.out.c1
 have c0:=jK.out.c0
 have c1:=jK.out.c1
 have f0:=jK.out.f 0
 have f1:=jK.out.f 1
 go_wp2_with fail
 have HY:=hid (jK.out.put (.int .u16 (a:Int)) (.int .u16 (b:Int)))
 have r0:=HY.out.c0
 have r1:=HY.out.c1
 exact bodyPost_ret (v:=bR (some (a,b))) (by simp[results,Tryz.results162,go_sem,bR,r0,r1]) rfl ⟨rfl,HY.out.az⟩
theorem fg{l:List UInt8}(hne:l≠bY)(h:∀a b,b9 (vQ l)=some a->b9 (lV l)=some b->a<=b->bU a b=l->False):cI l=none:=by
 cases hs:cI l with
 | none=>rfl
 | some x =>
  exfalso
  obtain⟨a,b⟩:=x
  unfold aE.cI at hs
  rw[if_neg hne]at hs
  split at hs
  ·rename_i a' b' h1 h2;split at hs
   ·rename_i hh;exact h a' b' h1 h2 hh.1 hh.2
   ·cases hs
  ·cases hs
theorem xM{l:List UInt8}{a b:Nat}(h1:b9 (vQ l)=some a)(h2:b9 (lV l)=some b)(h3:a<=b)(h4:bU a b=l):cI l=some (a,b) :=
 aE.jk.2 ⟨h3,(aE.bM.1 h2).2,h4⟩
theorem oy(l:List UInt8)(hl:l.length<=4096)(w:World)(he:Ad.Env w) :
  Calls Tryz.prog 162 #[.string ⟨l.toArray⟩] w λe w'=>e = .returned (bR (cI l))/\Below w.heap.size w w':=by
 by_cases hne:l=bY
 ·subst hne;rw[aE.FR];exact vf w
 ·obtain⟨p,q,t,hc⟩:∃p q t,cut l [45]=(p,q,t):=⟨_,_,_,rfl⟩;have hn:=Ou 45 l;rw[hc]at hn
  have hlo:vQ l=p:=by unfold aE.vQ;rw[hc]
  have hhi:lV l=if t=true then q else p:=by unfold aE.lV;rw[hc]
  have hp:p.length<=4096:=Nat.le_trans hn.1 hl;have hq:q.length<=4096:=Nat.le_trans hn.2 hl
  cases t with
  | true =>
   have hh:lV l=q:=hhi
   cases h1:b9 p with
   | none=>rw[fg hne (λa b e1 _ _ _=>by rw[hlo,h1]at e1;cases e1)];exact BS l p q hl hne w he hp hq hc h1
   | some a =>
    cases h2:b9 q with
    | none=>rw[fg hne (λa b _ e2 _ _=>by rw[hh,h2]at e2;cases e2)];exact BU l p q hl hne w he hp hq hc a h1 h2
    | some b =>
     by_cases h3:a<=b
     ·by_cases h4:bU a b=l
      ·rw[xM (by rw[hlo];exact h1) (by rw[hh];exact h2) h3 h4];exact BX l p q hl hne w he hp hq hc a b h1 h2 h3 h4
      ·rw[fg hne (λa' b' e1 e2 _ e4=>by rw[hlo,h1]at e1;rw[hh,h2]at e2;cases e1;cases e2;exact h4 e4)];exact BW l p q hl hne w he hp hq hc a b h1 h2 h3 h4
     ·rw[fg hne (λa' b' e1 e2 e3 _=>by rw[hlo,h1]at e1;rw[hh,h2]at e2;cases e1;cases e2;exact h3 e3)];exact BV l p q hl hne w he hp hq hc a b h1 h2 h3
  | false =>
   have hh:lV l=p:=hhi
   cases h1:b9 p with
   | none=>rw[fg hne (λa b e1 _ _ _=>by rw[hlo,h1]at e1;cases e1)];exact zu l p q hl hne w he hp hq hc h1
   | some a =>
    cases h2:b9 p with
    | none=>rw[fg hne (λa b _ e2 _ _=>by rw[hh,h2]at e2;cases e2)];exact zv l p q hl hne w he hp hq hc a h1 h2
    | some b =>
     by_cases h3:a<=b
     ·by_cases h4:bU a b=l
      ·rw[xM (by rw[hlo];exact h1) (by rw[hh];exact h2) h3 h4];exact zy l p q hl hne w he hp hq hc a b h1 h2 h3 h4
      ·rw[fg hne (λa' b' e1 e2 _ e4=>by rw[hlo,h1]at e1;rw[hh,h2]at e2;cases e1;cases e2;exact h4 e4)];exact zx l p q hl hne w he hp hq hc a b h1 h2 h3 h4
     ·rw[fg hne (λa' b' e1 e2 e3 _=>by rw[hlo,h1]at e1;rw[hh,h2]at e2;cases e1;cases e2;exact h3 e3)];exact aaN l p q hl hne w he hp hq hc a b h1 h2 h3
end Ru
namespace Ru
open aE (R gB known cg gb bU oD tT eY gY oE)
open aV (bY aj eX)
end Ru
namespace Ru
open aE (R gB known cg bU cI cN dY mq)
open aV (bY fm)
structure mY(w:World)(g:Nat)(cs:Array Value)(W:World):Prop where
 blk:aF W g cs 80
 az:Below w.heap.size w W
 le:w.heap.size<=g
theorem mY.box(w:World)(cs:Array Value):mY w w.heap.size cs (w.alloc (.cells cs 80)):=⟨aF.box _ _ _,ae _ _,Nat.le_refl _⟩
theorem mY.next{w W W':World}{g:Nat}{cs:Array Value}(h:mY w g cs W)(hb:Below W.heap.size W W'):mY w g cs W':=⟨h.blk.next hb,aA h.az hb,h.le⟩
theorem mY.put{w W:World}{g:Nat}{a0 a1 a2 a3 a4 a5 a6 a7 a8 a9:Value}(h:mY w g #[a0,a1,a2,a3,a4,a5,a6,a7,a8,a9] W)(v0 v1 v2 v3 v4 v5 v6 v7 v8 v9:Value) :
  mY w g #[v0,v1,v2,v3,v4,v5,v6,v7,v8,v9] ((((((((((W.setCell ⟨g,0,none⟩ v0).setCell ⟨g,1,none⟩ v1).setCell ⟨g,2,none⟩ v2).setCell ⟨g,3,none⟩ v3).setCell ⟨g,4,none⟩ v4).setCell ⟨g,5,none⟩ v5).setCell ⟨g,6,none⟩ v6).setCell ⟨g,7,none⟩ v7).setCell ⟨g,8,none⟩ v8).setCell ⟨g,9,none⟩ v9):=by
 have h0:aF (W.setCell ⟨g,0,none⟩ v0) g #[v0,a1,a2,a3,a4,a5,a6,a7,a8,a9] 80:=h.blk.set' 0 v0 rfl
 have h1:aF ((W.setCell ⟨g,0,none⟩ v0).setCell ⟨g,1,none⟩ v1) g #[v0,v1,a2,a3,a4,a5,a6,a7,a8,a9] 80:=h0.set' 1 v1 rfl
 have h2:aF (((W.setCell ⟨g,0,none⟩ v0).setCell ⟨g,1,none⟩ v1).setCell ⟨g,2,none⟩ v2) g #[v0,v1,v2,a3,a4,a5,a6,a7,a8,a9] 80:=h1.set' 2 v2 rfl
 have h3:aF ((((W.setCell ⟨g,0,none⟩ v0).setCell ⟨g,1,none⟩ v1).setCell ⟨g,2,none⟩ v2).setCell ⟨g,3,none⟩ v3) g #[v0,v1,v2,v3,a4,a5,a6,a7,a8,a9] 80:=h2.set' 3 v3 rfl
 have h4:aF (((((W.setCell ⟨g,0,none⟩ v0).setCell ⟨g,1,none⟩ v1).setCell ⟨g,2,none⟩ v2).setCell ⟨g,3,none⟩ v3).setCell ⟨g,4,none⟩ v4) g #[v0,v1,v2,v3,v4,a5,a6,a7,a8,a9] 80:=h3.set' 4 v4 rfl
 have h5:aF ((((((W.setCell ⟨g,0,none⟩ v0).setCell ⟨g,1,none⟩ v1).setCell ⟨g,2,none⟩ v2).setCell ⟨g,3,none⟩ v3).setCell ⟨g,4,none⟩ v4).setCell ⟨g,5,none⟩ v5) g #[v0,v1,v2,v3,v4,v5,a6,a7,a8,a9] 80:=h4.set' 5 v5 rfl
 have h6:aF (((((((W.setCell ⟨g,0,none⟩ v0).setCell ⟨g,1,none⟩ v1).setCell ⟨g,2,none⟩ v2).setCell ⟨g,3,none⟩ v3).setCell ⟨g,4,none⟩ v4).setCell ⟨g,5,none⟩ v5).setCell ⟨g,6,none⟩ v6) g #[v0,v1,v2,v3,v4,v5,v6,a7,a8,a9] 80:=h5.set' 6 v6 rfl
 have h7:aF ((((((((W.setCell ⟨g,0,none⟩ v0).setCell ⟨g,1,none⟩ v1).setCell ⟨g,2,none⟩ v2).setCell ⟨g,3,none⟩ v3).setCell ⟨g,4,none⟩ v4).setCell ⟨g,5,none⟩ v5).setCell ⟨g,6,none⟩ v6).setCell ⟨g,7,none⟩ v7) g #[v0,v1,v2,v3,v4,v5,v6,v7,a8,a9] 80:=h6.set' 7 v7 rfl
 have h8:aF (((((((((W.setCell ⟨g,0,none⟩ v0).setCell ⟨g,1,none⟩ v1).setCell ⟨g,2,none⟩ v2).setCell ⟨g,3,none⟩ v3).setCell ⟨g,4,none⟩ v4).setCell ⟨g,5,none⟩ v5).setCell ⟨g,6,none⟩ v6).setCell ⟨g,7,none⟩ v7).setCell ⟨g,8,none⟩ v8) g #[v0,v1,v2,v3,v4,v5,v6,v7,v8,a9] 80:=h7.set' 8 v8 rfl
 have h9:aF ((((((((((W.setCell ⟨g,0,none⟩ v0).setCell ⟨g,1,none⟩ v1).setCell ⟨g,2,none⟩ v2).setCell ⟨g,3,none⟩ v3).setCell ⟨g,4,none⟩ v4).setCell ⟨g,5,none⟩ v5).setCell ⟨g,6,none⟩ v6).setCell ⟨g,7,none⟩ v7).setCell ⟨g,8,none⟩ v8).setCell ⟨g,9,none⟩ v9) g #[v0,v1,v2,v3,v4,v5,v6,v7,v8,v9] 80:=h8.set' 9 v9 rfl
 exact⟨h9,((((((((((h.az.setCell (p:=⟨g,0,none⟩) h.le v0).setCell (p:=⟨g,1,none⟩) h.le v1).setCell (p:=⟨g,2,none⟩) h.le v2).setCell (p:=⟨g,3,none⟩) h.le v3).setCell (p:=⟨g,4,none⟩) h.le v4).setCell (p:=⟨g,5,none⟩) h.le v5).setCell (p:=⟨g,6,none⟩) h.le v6).setCell (p:=⟨g,7,none⟩) h.le v7).setCell (p:=⟨g,8,none⟩) h.le v8).setCell (p:=⟨g,9,none⟩) h.le v9),h.le⟩
abbrev zR:Array Value:=#[.bool false,.int .u8 0,.int .u32 0,.int .i64 0,.int .u32 0,.int .i64 0,.int .u16 0,.int .u16 0,.int .u16 0,.int .u16 0]
def kR(o:Option R):Value:=match o with
 | some r=>.tuple #[.agg (cR r),.bool true]
 | none=>.tuple #[.agg zR,.bool false]
structure Tw(g:Nat)(v p s sp d dp:List UInt8)(W:World):Prop where
 lt:g<W.heap.size
 c0:W.cell? ⟨g,0,none⟩=some (.string ⟨v.toArray⟩)
 c1:W.cell? ⟨g,1,none⟩=some (.string ⟨p.toArray⟩)
 c2:W.cell? ⟨g,2,none⟩=some (.string ⟨s.toArray⟩)
 c3:W.cell? ⟨g,3,none⟩=some (.string ⟨sp.toArray⟩)
 c4:W.cell? ⟨g,4,none⟩=some (.string ⟨d.toArray⟩)
 c5:W.cell? ⟨g,5,none⟩=some (.string ⟨dp.toArray⟩)
theorem Tw.next{g:Nat}{v p s sp d dp:List UInt8}{W W':World}(h:Tw g v p s sp d dp W)(hb:Below W.heap.size W W'):Tw g v p s sp d dp W' :=
 ⟨Nat.lt_of_lt_of_le h.lt hb.size,(hb.cell h.lt).trans h.c0,(hb.cell h.lt).trans h.c1,(hb.cell h.lt).trans h.c2,(hb.cell h.lt).trans h.c3,(hb.cell h.lt).trans h.c4,(hb.cell h.lt).trans h.c5⟩
structure PX(w:World)(g:Nat)(v p s sp d dp:List UInt8)(W:World):Prop where
 ten:mY w w.heap.size zR W
 CD:Tw g v p s sp d dp W
theorem PX.next{w W W':World}{g:Nat}{v p s sp d dp:List UInt8}(h:PX w g v p s sp d dp W)(hb:Below W.heap.size W W'):PX w g v p s sp d dp W':=⟨h.ten.next hb,h.CD.next hb⟩
theorem vg(o:Option (Nat×Nat)):∃(x y:Int) (b:Bool),bR o = .tuple #[.agg #[.int .u16 x,.int .u16 y],.bool b]:=by
 cases o with
 | none=>exact⟨_,_,_,rfl⟩
 | some n=>exact⟨_,_,_,rfl⟩
theorem xN(o:Option (Nat×Nat)):∃(a n e:Int),Ad.cu o = .tuple #[.agg #[.int .u32 a,.int .i64 n],.int .i64 e]:=by
 cases o with
 | none=>exact⟨_,_,_,rfl⟩
 | some n=>exact⟨_,_,_,rfl⟩
theorem GV:Ad.cu none = .tuple #[.agg #[.int .u32 0,.int .i64 0],.int .i64 3]:=rfl
theorem GX(a n:Nat):Ad.cu (some (a,n)) = .tuple #[.agg #[.int .u32 (a:Int),.int .i64 (n:Int)],.int .i64 0]:=rfl
theorem DL:bR none = .tuple #[.agg #[.int .u16 0,.int .u16 0],.bool false]:=rfl
theorem DM(a b:Nat):bR (some (a,b)) = .tuple #[.agg #[.int .u16 (a:Int),.int .u16 (b:Int)],.bool true]:=rfl
theorem BZ(l:List UInt8)(hl:l.length<=4096)(w:World)(he:Ad.Env w) :
  Calls Tryz.prog 161 #[.string ⟨l.toArray⟩] w λe w'=>e = .returned (Ad.cu (fm l))/\Below w.heap.size w w':=by
 have h:=Ad.On ⟨l.toArray⟩ (by simp[ByteArray.size];omega) w he
 have e0:(⟨l.toArray⟩:ByteArray).data.toList=l:=zs
 rw[e0]at h
 exact h
theorem GY(l:List UInt8)(W:World)(b:Nat)(hb:W.heap[b]? = some (.map pm 4)) :
  (Instr.lookup 222 (.map (some b)) (.string ⟨l.toArray⟩) true).run Tryz.prog W = .ok (.tuple #[.int .u8 (lR l:Int),.bool (ey l)]) W:=by
 have h:=jl ⟨l.toArray⟩ W b hb
 have e0:(⟨l.toArray⟩:ByteArray).data.toList=l:=zs
 rw[e0]at h
 exact h
theorem B4{l:List UInt8}(h:cg l=none):ey l=false:=by unfold ey;rw[h];rfl
theorem B5{l:List UInt8}{p:Nat}(h:cg l=some p):ey l=true/\lR l=p:=by unfold ey lR;rw[h];exact⟨rfl,rfl⟩
theorem oP(v p s sp d dp:List UInt8):cN [v,p,s,sp,d,dp]=if v=dY\/v=mq then
  match cg p,fm s,cI sp,fm d,cI dp with
  | some p,some (sa,sb),some (sl,sh),some (da,db),some (dl,dh)=>some ⟨decide (v=dY),p,sa,sb,da,db,sl,sh,dl,dh⟩
  | _,_,_,_,_=>none else none:=rfl
theorem B6{v p s sp d dp:List UInt8}(hA : ¬v=dY)(hD : ¬v=mq):cN [v,p,s,sp,d,dp]=none:=by rw[oP,if_neg (λh=>h.elim hA hD)]
theorem kS{v p s sp d dp:List UInt8}(h:cg p=none\/fm s=none\/cI sp=none\/fm d=none\/cI dp=none):cN [v,p,s,sp,d,dp]=none:=by
 rw[oP];split
 ·generalize cg p=x0 at *;generalize fm s=x1 at *;generalize cI sp=x2 at *;generalize fm d=x3 at *;generalize cI dp=x4 at *
  cases x0 <;> cases x1 <;> cases x2 <;> cases x3 <;> cases x4 <;> simp at h ⊢
 ·rfl
theorem DN{v p s sp d dp:List UInt8}{q x0 y0 x1 y1 x2 y2 x3 y3:Nat}(hv:v=dY\/v=mq)(h1:cg p=some q)(h2:fm s=some (x0,y0))(h3:cI sp=some (x1,y1))(h4:fm d=some (x2,y2))(h5:cI dp=some (x3,y3)) :
  cN [v,p,s,sp,d,dp]=some ⟨decide (v=dY),q,x0,y0,x2,y2,x1,y1,x3,y3⟩:=by
 rw[oP,if_pos hv,h1,h2,h3,h4,h5]
abbrev Ow(x y z:Int):Value:=.tuple #[.agg #[.int .u32 x,.int .i64 y],.int .i64 z]
abbrev Fg(x y:Int)(z:Bool):Value:=.tuple #[.agg #[.int .u16 x,.int .u16 y],.bool z]
theorem xO{x y z:Int}(h:Ad.cu none=Ow x y z):z=3:=by rw[GV]at h;simp at h;omega
theorem xP{X Y:Nat}{x y z:Int}(h:Ad.cu (some (X,Y))=Ow x y z):x=X/\y=Y/\z=0:=by rw[GX]at h;simp at h;omega
theorem vn{x y:Int}{z:Bool}(h:bR none=Fg x y z):z=false:=by rw[DL]at h;simp at h;simp[h]
theorem vo{X Y:Nat}{x y:Int}{z:Bool}(h:bR (some (X,Y))=Fg x y z):x=X/\y=Y/\z=true:=by rw[DM]at h;simp at h;exact⟨by omega,by omega,by simp[h]⟩
theorem DO{v p s sp d dp:List UInt8}{x0 y0 z0 x1 y1 x2 y2 z2 x3 y3:Int}{z1 z3:Bool}(e0:Ad.cu (fm s)=Ow x0 y0 z0)(e1:bR (cI sp)=Fg x1 y1 z1)(e2:Ad.cu (fm d)=Ow x2 y2 z2)(e3:bR (cI dp)=Fg x3 y3 z3) :
  (cN [v,p,s,sp,d,dp]=none/\(((v==[97,99,99,101,112,116])=false/\(v==[100,114,111,112])=false)\/((v==[97,99,99,101,112,116])=true\/(v==[97,99,99,101,112,116])=false/\(v==[100,114,111,112])=true) ∧
   (ey p=false\/ey p=true/\(z0=3\/z0=0/\(z2=3\/z2=0/\(z1=false\/z1=true/\z3=false)))))) ∨
  ∃X0 Y0 X1 Y1 X2 Y2 X3 Y3:Nat,(x0=X0/\y0=Y0/\z0=0)/\(x1=X1/\y1=Y1/\z1=true)/\(x2=X2/\y2=Y2/\z2=0)/\(x3=X3/\y3=Y3/\z3=true)/\ey p=true ∧
   ((v==[97,99,99,101,112,116])=true/\cN [v,p,s,sp,d,dp]=some ⟨true,lR p,X0,(Y0:Int),X2,(Y2:Int),X1,Y1,X3,Y3⟩\/(v==[97,99,99,101,112,116])=false/\(v==[100,114,111,112])=true/\cN [v,p,s,sp,d,dp]=some ⟨false,lR p,X0,(Y0:Int),X2,(Y2:Int),X1,Y1,X3,Y3⟩):=by
 by_cases hv:v=dY\/v=mq
 ·have hV:(v==[97,99,99,101,112,116])=true\/(v==[97,99,99,101,112,116])=false/\(v==[100,114,111,112])=true:=by
   rcases hv with rfl | rfl
   ·exact .inl rfl
   ·exact .inr ⟨rfl,rfl⟩
  cases h:cg p with
  | none=>exact .inl ⟨kS (.inl h),.inr ⟨hV,.inl (B4 h)⟩⟩
  | some q =>
   obtain⟨hK,hN⟩:=B5 h
   cases h0:fm s with
   | none=>rw[h0]at e0;exact .inl ⟨kS (.inr (.inl h0)),.inr ⟨hV,.inr ⟨hK,.inl (xO e0)⟩⟩⟩
   | some X0 =>
    rw[h0]at e0
    have a0:=xP e0
    cases h2:fm d with
    | none=>rw[h2]at e2;exact .inl ⟨kS (.inr (.inr (.inr (.inl h2)))),.inr ⟨hV,.inr ⟨hK,.inr ⟨a0.2.2,.inl (xO e2)⟩⟩⟩⟩
    | some X2 =>
     rw[h2]at e2
     have a2:=xP e2
     cases h1:cI sp with
     | none=>rw[h1]at e1;exact .inl ⟨kS (.inr (.inr (.inl h1))),.inr ⟨hV,.inr ⟨hK,.inr ⟨a0.2.2,.inr ⟨a2.2.2,.inl (vn e1)⟩⟩⟩⟩⟩
     | some X1 =>
      rw[h1]at e1
      have a1:=vo e1
      cases h3:cI dp with
      | none=>rw[h3]at e3;exact .inl ⟨kS (.inr (.inr (.inr (.inr h3)))),.inr ⟨hV,.inr ⟨hK,.inr ⟨a0.2.2,.inr ⟨a2.2.2,.inr ⟨a1.2.2,vn e3⟩⟩⟩⟩⟩⟩
      | some X3 =>
       rw[h3]at e3
       have a3:=vo e3
       refine .inr ⟨_,_,_,_,_,_,_,_,a0,a1,a2,a3,hK,?_⟩
       rw[DN hv h h0 h1 h2 h3,hN]
       rcases hv with rfl | rfl
       ·exact .inl ⟨rfl,rfl⟩
       ·exact .inr ⟨rfl,rfl,rfl⟩
 ·have hA : ¬v=dY:=λh=>hv (.inl h);have hD : ¬v=mq:=λh=>hv (.inr h);exact .inl ⟨B6 hA hD,.inl ⟨by rw[beq_eq_false_iff_ne];exact hA,by rw[beq_eq_false_iff_ne];exact hD⟩⟩
theorem GZ(v p s sp d dp:List UInt8)(g cap:Nat)(w:World)(he:Env w)(hW:Tw g v p s sp d dp w)(hcap:6<=cap)(hcap2:cap<=9223372036854775807)(l2:s.length<=4096)(l3:sp.length<=4096)(l4:d.length<=4096)(l5:dp.length<=4096) :
  Calls Tryz.prog 113 #[.slice (some ⟨g,0,none⟩) 6 cap] w λe w'=>e = .returned (kR (cN [v,p,s,sp,d,dp]))/\Below w.heap.size w w':=by
 have H0:=hid (λW (h:Below w.heap.size w W)=>BZ s l2 W (he.ad.below h))
 obtain⟨x0,y0,z0,e0⟩:=xN (fm s)
 rw[e0]at H0
 have H1:=hid (λW (h:Below w.heap.size w W)=>oy sp l3 W (he.ad.below h))
 obtain⟨x1,y1,z1,e1⟩:=vg (cI sp)
 rw[e1]at H1
 have H2:=hid (λW (h:Below w.heap.size w W)=>BZ d l4 W (he.ad.below h))
 obtain⟨x2,y2,z2,e2⟩:=xN (fm d)
 rw[e2]at H2
 have H3:=hid (λW (h:Below w.heap.size w W)=>oy dp l5 W (he.ad.below h))
 obtain⟨x3,y3,z3,e3⟩:=vg (cI dp)
 rw[e3]at H3
 have hw:=DO (v:=v) (p:=p) e0 e1 e2 e3
 clear e0 e1 e2 e3
 have PO:=hid (λW b hb=>GY p W b hb)
 generalize cN [v,p,s,sp,d,dp]=res at *
 generalize lR p=pn at *
 generalize ey p=pk at *
 have Ym:=hid hw
 have Ty:Hid (PX w g v p s sp d dp (w.alloc (.cells zR 80))):=⟨mY.box w zR,hW.next (ae _ _)⟩
 have UD:=hW.lt
 clear he l2 l3 l4 l5 hW hw
 have c0:=Ty.out.CD.c0
 have c1:=Ty.out.CD.c1
 go_in
 go_wp2_with fail
 clear c0
 obtain⟨W0,V1⟩:∃U,w.alloc (.cells zR 80)=U:=⟨_,rfl⟩
 unfold zR at V1
 rw[V1]at Ty c1 ⊢
 clear V1
 refine wp_region_held_drew (S:=(λw'=>w'.cell? ⟨g,1,none⟩=some (.string ⟨p.toArray⟩)/\Hid (PX w g v p s sp d dp w'))) zk (⟨c1,Ty.out.next ((Below.refl _ _).drew)⟩) (λhH=>?_)
 refine zr 1 24 hH ?_
 refine zr 2 25 hH ?_
 refine zr 3 26 hH ?_
 try simp only[zq]
 refine zrd 0 (λK hK=>?_)
 go_simp
 refine(ox _).mono ?_
 rintro e w1 ⟨rfl,rfl⟩
 have HM:=hid (heap_alloc_new W0.drew (.map pm 4))
 have V2:Hid (PX w g v p s sp d dp (W0.drew.alloc (.map pm 4))):=hH.2.out.next (ae _ _)
 refine hK.out _ _ (⟨V2.out.CD.c1,V2⟩) (λhH=>?_)
 clear hK K
 try simp only[zq]
 refine zrd 4 (λK hK=>?_)
 have hlk:=PO.out ((W0.alloc (.map pm 4)).drew) W0.heap.size (heap_alloc_new W0 _)
 go_simp
 refine hK.out _ _ (hH) (λhH=>?_)
 clear hK K
 clear hlk
 try simp only[zq]
 refine zr 5 22 hH ?_
 refine zr 6 28 hH ?_
 refine zr 7 29 hH ?_
 refine zr 8 5 hH ?_
 refine zr 9 6 hH ?_
 try simp only[zq]
 refine wpAnyH_done zk ?_ _
 have PP:=hid hH.2.out
 clear hH HM V2 Ty
 try clear hlk
 have c2:=PP.out.CD.c2
 go_wp2_with fail
 refine(H0.out _ PP.out.ten.az).mono ?_
 rintro e w2 ⟨rfl,hb⟩
 have V3:=hid ((PP.out.next hb).next (ae w2 (.cells #[.int .u32 x0,.int .i64 y0] 75)))
 have Fh:=hid (aF.box w2 #[.int .u32 x0,.int .i64 y0] 75)
 clear hb c2
 have c3:=V3.out.CD.c3
 go_wp2_with fail
 refine(H1.out _ V3.out.ten.az).mono ?_
 rintro e w3 ⟨rfl,hb⟩
 have Q_:=hid ((V3.out.next hb).next (ae w3 (.cells #[.int .u16 x1,.int .u16 y1] 78)))
 have Fh:=hid ((Fh.out.next hb).next (ae w3 (.cells #[.int .u16 x1,.int .u16 y1] 78)))
 have Sy:=hid (aF.box w3 #[.int .u16 x1,.int .u16 y1] 78)
 clear hb c3
 have c4:=Q_.out.CD.c4
 go_wp2_with fail
 refine(H2.out _ Q_.out.ten.az).mono ?_
 rintro e w4 ⟨rfl,hb⟩
 have vZ:=hid ((Q_.out.next hb).next (ae w4 (.cells #[.int .u32 x2,.int .i64 y2] 75)))
 have Fh:=hid ((Fh.out.next hb).next (ae w4 (.cells #[.int .u32 x2,.int .i64 y2] 75)))
 have Sy:=hid ((Sy.out.next hb).next (ae w4 (.cells #[.int .u32 x2,.int .i64 y2] 75)))
 have PR:=hid (aF.box w4 #[.int .u32 x2,.int .i64 y2] 75)
 clear hb c4
 have c5:=vZ.out.CD.c5
 go_wp2_with fail
 refine(H3.out _ vZ.out.ten.az).mono ?_
 rintro e w5 ⟨rfl,hb⟩
 have jx:=hid ((vZ.out.next hb).next (ae w5 (.cells #[.int .u16 x3,.int .u16 y3] 78)))
 have Fh:=hid ((Fh.out.next hb).next (ae w5 (.cells #[.int .u16 x3,.int .u16 y3] 78)))
 have Sy:=hid ((Sy.out.next hb).next (ae w5 (.cells #[.int .u16 x3,.int .u16 y3] 78)))
 have PR:=hid ((PR.out.next hb).next (ae w5 (.cells #[.int .u16 x3,.int .u16 y3] 78)))
 have Yn:=hid (aF.box w5 #[.int .u16 x3,.int .u16 y3] 78)
 clear hb c5
 have d0:=jx.out.ten.blk.cell 0 _ rfl
 have f0:=jx.out.ten.blk.frozen 0
 have d1:=jx.out.ten.blk.cell 1 _ rfl
 have f1:=jx.out.ten.blk.frozen 1
 have d2:=jx.out.ten.blk.cell 2 _ rfl
 have f2:=jx.out.ten.blk.frozen 2
 have d3:=jx.out.ten.blk.cell 3 _ rfl
 have f3:=jx.out.ten.blk.frozen 3
 have d4:=jx.out.ten.blk.cell 4 _ rfl
 have f4:=jx.out.ten.blk.frozen 4
 have d5:=jx.out.ten.blk.cell 5 _ rfl
 have f5:=jx.out.ten.blk.frozen 5
 have d6:=jx.out.ten.blk.cell 6 _ rfl
 have f6:=jx.out.ten.blk.frozen 6
 have d7:=jx.out.ten.blk.cell 7 _ rfl
 have f7:=jx.out.ten.blk.frozen 7
 have d8:=jx.out.ten.blk.cell 8 _ rfl
 have f8:=jx.out.ten.blk.frozen 8
 have d9:=jx.out.ten.blk.cell 9 _ rfl
 have f9:=jx.out.ten.blk.frozen 9
 have k00:=Fh.out.cell 0 _ rfl
 have k01:=Fh.out.cell 1 _ rfl
 have k10:=Sy.out.cell 0 _ rfl
 have k11:=Sy.out.cell 1 _ rfl
 have k20:=PR.out.cell 0 _ rfl
 have k21:=PR.out.cell 1 _ rfl
 have k30:=Yn.out.cell 0 _ rfl
 have k31:=Yn.out.cell 1 _ rfl
 have hw:=Ym.out
 clear Ym H0 H1 H2 H3 PO
 rcases hw with⟨rfl,hw⟩ | ⟨x0,y0,x1,y1,x2,y2,x3,y3,⟨rfl,rfl,rfl⟩,⟨rfl,rfl,rfl⟩,⟨rfl,rfl,rfl⟩,⟨rfl,rfl,rfl⟩,rfl,hw⟩
 ·rcases hw with⟨hA,hD⟩ | ⟨hA | ⟨hA,hD⟩,rfl | ⟨rfl,rfl | ⟨rfl,rfl | ⟨rfl,rfl | ⟨rfl,rfl⟩⟩⟩⟩⟩
  all_goals go_wp2_with fail
  all_goals (
   have HY:=hid (jx.out.ten.put (.bool false) (.int .u8 0) (.int .u32 0) (.int .i64 0) (.int .u32 0) (.int .i64 0) (.int .u16 0) (.int .u16 0) (.int .u16 0) (.int .u16 0))
   have r0:=HY.out.blk.cell 0 _ rfl
   have r1:=HY.out.blk.cell 1 _ rfl
   have r2:=HY.out.blk.cell 2 _ rfl
   have r3:=HY.out.blk.cell 3 _ rfl
   have r4:=HY.out.blk.cell 4 _ rfl
   have r5:=HY.out.blk.cell 5 _ rfl
   have r6:=HY.out.blk.cell 6 _ rfl
   have r7:=HY.out.blk.cell 7 _ rfl
   have r8:=HY.out.blk.cell 8 _ rfl
   have r9:=HY.out.blk.cell 9 _ rfl
   clear d0 d1 d2 d3 d4 d5 d6 d7 d8 d9 f0 f1 f2 f3 f4 f5 f6 f7 f8 f9
   exact bodyPost_ret (v:=kR none) (by simp[results,Tryz.results113,go_sem,kR,r0,r1,r2,r3,r4,r5,r6,r7,r8,r9]) rfl ⟨rfl,HY.out.az⟩)
 ·rcases hw with⟨hA,rfl⟩ | ⟨hA,hD,rfl⟩
  ·go_wp2_with fail;have HY:=hid (jx.out.ten.put (.bool true) (.int .u8 (pn:Int)) (.int .u32 (x0:Int)) (.int .i64 (y0:Int)) (.int .u32 (x2:Int)) (.int .i64 (y2:Int)) (.int .u16 (x1:Int)) (.int .u16 (y1:Int)) (.int .u16 (x3:Int)) (.int .u16 (y3:Int)));have r0:=HY.out.blk.cell 0 _ rfl;have r1:=HY.out.blk.cell 1 _ rfl;have r2:=HY.out.blk.cell 2 _ rfl;have r3:=HY.out.blk.cell 3 _ rfl;have r4:=HY.out.blk.cell 4 _ rfl;have r5:=HY.out.blk.cell 5 _ rfl;have r6:=HY.out.blk.cell 6 _ rfl;have r7:=HY.out.blk.cell 7 _ rfl;have r8:=HY.out.blk.cell 8 _ rfl;have r9:=HY.out.blk.cell 9 _ rfl;clear d0 d1 d2 d3 d4 d5 d6 d7 d8 d9 f0 f1 f2 f3 f4 f5 f6 f7 f8 f9;exact bodyPost_ret (v:=kR (some ⟨true,pn,x0,(y0:Int),x2,(y2:Int),x1,y1,x3,y3⟩)) (by simp[results,Tryz.results113,go_sem,kR,r0,r1,r2,r3,r4,r5,r6,r7,r8,r9]) rfl ⟨rfl,HY.out.az⟩
  ·go_wp2_with fail;have HY:=hid (jx.out.ten.put (.bool false) (.int .u8 (pn:Int)) (.int .u32 (x0:Int)) (.int .i64 (y0:Int)) (.int .u32 (x2:Int)) (.int .i64 (y2:Int)) (.int .u16 (x1:Int)) (.int .u16 (y1:Int)) (.int .u16 (x3:Int)) (.int .u16 (y3:Int)));have r0:=HY.out.blk.cell 0 _ rfl;have r1:=HY.out.blk.cell 1 _ rfl;have r2:=HY.out.blk.cell 2 _ rfl;have r3:=HY.out.blk.cell 3 _ rfl;have r4:=HY.out.blk.cell 4 _ rfl;have r5:=HY.out.blk.cell 5 _ rfl;have r6:=HY.out.blk.cell 6 _ rfl;have r7:=HY.out.blk.cell 7 _ rfl;have r8:=HY.out.blk.cell 8 _ rfl;have r9:=HY.out.blk.cell 9 _ rfl;clear d0 d1 d2 d3 d4 d5 d6 d7 d8 d9 f0 f1 f2 f3 f4 f5 f6 f7 f8 f9;exact bodyPost_ret (v:=kR (some ⟨false,pn,x0,(y0:Int),x2,(y2:Int),x1,y1,x3,y3⟩)) (by simp[results,Tryz.results113,go_sem,kR,r0,r1,r2,r3,r4,r5,r6,r7,r8,r9]) rfl ⟨rfl,HY.out.az⟩
end Ru
namespace Ru
open aE (R gB known cg bU cI cN dY mq comp aL)
open aV (bY fm)
open cC (Line cM eM aW)
theorem mO(v:Value)(ws:List (List UInt8))(w:World)(h6:ws.length≠6)(hr:Tx.Row w 9 w.heap.size v ws.length (ws.map Tx.u_)) :
  Calls Tryz.prog 113 #[v] w λe w'=>e = .returned (kR none)/\Below w.heap.size w w':=by
 obtain⟨A,c,rfl⟩:=hr.len
 have hd:((ws.length:Int)!=6)=true:=by rw[bne_iff_ne];omega
 have HT:=hid (mY.box w zR)
 clear hr h6
 generalize ws.length=n at *
 go_in
 go_wp2_with fail
 exact bodyPost_ret (v:=kR none) (by simp[results,Tryz.results113,go_sem,kR]) rfl ⟨rfl,ae _ _⟩
theorem b8(v:Value)(ws:List (List UInt8))(w:World)(he:Env w)(hr:Tx.Row w 9 w.heap.size v ws.length (ws.map Tx.u_))(hl:∀x∈ws,x.length<=4096) :
  Calls Tryz.prog 113 #[v] w λe w'=>e = .returned (kR (cN ws))/\Below w.heap.size w w':=by
 by_cases h6:ws.length=6
 ·obtain⟨a,b,c,d,e,f,rfl⟩:∃a b c d e f,ws=[a,b,c,d,e,f]:=by
   match ws,h6 with
   | [a,b,c,d,e,f],_=>exact⟨_,_,_,_,_,_,rfl⟩
  obtain⟨g,cap,rfl,hg,h1,h2,hc⟩:=hr.at_ zs;exact GZ a b c d e f g cap w he ⟨hg,hc 0 _ rfl,hc 1 _ rfl,hc 2 _ rfl,hc 3 _ rfl,hc 4 _ rfl,hc 5 _ rfl⟩ h1 (by unfold maxLen at h2;omega) (hl c zs) (hl d zs) (hl e zs) (hl f zs)
 ·rw[aE.CU h6];exact mO v ws w h6 hr
theorem rR:(Tryz.prog.info? 80).map (λi=>(i.zero,i.size,i.bytes))=some (some (.agg zR),10,48):=zk
theorem Hf(w:World)(r:R)(t:TypeId):∀j u,(fU r)[j]? = some u->(w.alloc (.cells (cR r) t)).cell? ((⟨w.heap.size,0,none⟩:Addr).add j)=some u:=by
 intro j u hj;have hb:aF (w.alloc (.cells (cR r) t)) w.heap.size (cR r) t:=aF.box _ _ _;rw[oL,Nat.zero_add];exact hb.cell j u (by rw[← hj];show(fU r).toArray[j]? = _;exact List.getElem?_toArray)
theorem oS{w W0:World}{ops:Array Oper}{rest:List Oper}{o:Oper}{a:Act}{Q:Exit->Act->World->Prop}(hgd:o.guard=none)(s x:Operand)
  (ho:o.op = .call { callee:=.builtin .append,args:=#[s,x],argTypes:=#[25,25] })
  (v:Value) (rs:List R) (hs:a.eval s=v) (hown:w.ownsRow W0.heap.size 80 10 v rs.length (aI rs)) (hbel:Below W0.heap.size W0 w) (r:R)
  (hx:a.eval x = .slice (some ⟨w.heap.size,0,none⟩) 1 1) (hlen:rs.length<=100000)
  (h:∀v' w',Hid (w'.ownsRow W0.heap.size 80 10 v' (rs++[r]).length (aI (rs++[r])))->Hid (Below W0.heap.size W0 w')->wpList Tryz.prog ops Q rest (a.put o.dst v') w') :
  wpList Tryz.prog ops Q (o::rest) a (w.alloc (.cells (cR r) 80)):=by
 obtain⟨i,hi,hz0,hz1,jc⟩:=Tx.B7 rR
 have xQ:=hown.alloc (.cells (cR r) 80)
 have aK:Below W0.heap.size W0 (w.alloc (.cells (cR r) 80)):=hbel.alloc hbel.size _
 refine wpList_append_own (P:=Tryz.prog) _ hgd s x 25 ho W0.heap.size 80 i (.agg zR) 10 48 Tryz.underlying25 hi hz0 hz1 jc rfl zd v rs.length (aI rs) hs xQ
  ⟨w.heap.size,0,none⟩ 1 1 (fU r) hx rfl (Hf _ _ _) (by intro u hu;simp[fU]at hu;rcases hu with rfl | rfl | rfl | rfl | rfl | rfl | rfl | rfl | rfl | rfl <;> rfl) (by unfold maxLen;omega) zo aK.size ?_
 intro v' w' h1 h2 _
 refine h v' w' ?_ (aK.grown h2 aK.size λk hk=>(xQ.lt k hk).1)
 show w'.ownsRow _ _ _ _ _ _
 rw[List.length_append,gJ]
 have e:aI [r]=fU r:=by simp[aI]
 rw[e]
 exact h1
theorem Ra{w:World}{v:Value}{ls:List Line}(h:Tx.lZ w v ls){k n:Nat}{ws:List (List UInt8)}(hk:ls[k]? = some (n,ws)) :
  ∃g cap b,v = .slice (some ⟨g,0,none⟩) ls.length cap/\g<w.heap.size/\w.cell? ⟨g,k*2,none⟩=some (.int .i64 (n:Int))/\w.cell? ⟨g,k*2+1,none⟩=some b/\Tx.Row w 9 w.heap.size b ws.length (ws.map Tx.u_):=h.at_ hk
def LI(l:List UInt8)(W:World)(e:Ending)(w':World):Prop:=∃v,e = .returned (.tuple #[v,.int .i64 ((aL l).2.1:Int),.int .i64 ((aL l).2.2:Int)])/\gK w' w'.heap.size v (aL l).1/\(∀g,v.ownBlock=some g->W.heap.size<=g)/\Below W.heap.size W w'
theorem zA{l:List UInt8}{W w':World}{a b:Int}(h:(aL l).1=[])(ha:a=((aL l).2.1:Int))(hb:b=((aL l).2.2:Int))(hw:Below W.heap.size W w'):LI l W (.returned (.tuple #[.slice none 0 0,.int .i64 a,.int .i64 b])) w' :=
 ⟨.slice none 0 0,by rw[ha,hb],by rw[h];exact gK.nil w' _,(λg e=>by cases e),hw⟩
theorem B8(s:ByteArray)(w:World)(hs:s.size<=maxLen)(he:Env w):Calls Tryz.prog 73 #[.string s] w (LI s.data.toList w):=by
 have HL:=hid (Tx.G' s w hs he.tx);have HE:=hid he;clear he hs;obtain⟨l,hl⟩:∃l,s.data.toList=l:=⟨_,rfl⟩;rw[hl]at HL ⊢;clear hl;unfold Tx.V5 at HL;by_cases h0:cM l=0
 ·have HC:Hid (aL l=comp [] (aW l)):=by show _=_;unfold aE.aL;rw[if_pos h0]
  have ZV:=hid (λn ws hm=>aE.LF (l:=l) h0 (n:=n) (ws:=ws) hm);rw[h0]at HL;clear h0;go_in;go_wp2_with fail;refine HL.out.mono ?_;rintro e w1 ⟨v1,rfl,Q5,aK⟩;obtain⟨A1,c1,rfl⟩:=Q5.len;have PU:=hid Q5;have dF:=hid aK;clear Q5 aK HL;generalize aW l=ls at *;generalize eM l=ln at *;obtain⟨n,hn⟩:∃n,ls.length=n:=⟨_,rfl⟩;rw[hn]at PU ⊢;have HN:=hid hn;clear hn;go_wp2_with fail;go_loopw [2,22] (λv i wr=>∃(k:Nat) (acc:List R),k<=n/\k<=64/\i = .int .i64 (k:Int)/\acc.length=k/\Hid (wr.ownsRow w1.heap.size 80 10 v acc.length (aI acc))/\Hid (comp [] ls=comp acc (ls.drop k))/\Hid (Below w1.heap.size w1 wr)) (λ_ i _=>n - (RowKit.intOf i).toNat)
  case atStart=>exact⟨0,[],by omega,by omega,rfl,rfl,World.ownsRow_nil _ _ _ _,by show _=_;rw[List.drop_zero],Below.refl _ _⟩
  case round =>
   obtain⟨k,acc,hk,ZW,rfl,hacc,hown,hcomp,hb⟩:=hrel;have LJ:=hid hacc;clear hacc;by_cases hlt:k<n
   ·obtain⟨⟨m,wd⟩,PV⟩:∃x,ls[k]? = some x:=⟨_,List.getElem?_eq_getElem (by have:=HN.out;omega)⟩;obtain⟨g,cap,b,hv,hg,hc0,hc1,hrow⟩:=Ra PU.out PV;injection hv with hv1 C2 CF;subst hv1 CF;have d0:=(hb.out.cell (p:=⟨g,k*2,none⟩) hg).trans hc0;have d1:=(hb.out.cell (p:=⟨g,k*2+1,none⟩) hg).trans hc1;obtain⟨bA,bc,rfl⟩:=hrow.len;have PW:=hid PV;have HR:=hid (hrow.below hb.out zl);have V8:=hid (hown.out.alloc (.cells #[.int .i64 (m:Int),.slice bA wd.length bc] 177));have CE:=hid (aA hb.out (ae wr (.cells #[.int .i64 (m:Int),.slice bA wd.length bc] 177)));clear C2 hc0 hc1 hrow PV;by_cases hk2:k=64
    ·subst hk2;have HM:Hid (aL l=([],m,14)):=HC.out.trans (hcomp.out.trans (aE.FT PW.out LJ.out));go_wp2_with fail
     go_quiet (fail)
     go_wp2_with fail;have UL:=hid (dF.out.trans (CE.out.mono dF.out.size));exact bodyPost_ret (v:=.tuple #[.slice none 0 0,.int .i64 (m:Int),.int .i64 14]) (by simp[results,Tryz.results73,go_sem]) rfl (zA (by rw[HM.out]) (by rw[HM.out]) (by rw[HM.out];rfl) (UL.out.lW _))
    ·have hkd:((k:Int)==64)=false:=by rw[beq_eq_false_iff_ne];omega
     have Tz:=ZV.out m wd (List.mem_of_getElem? PW.out);have UM:Hid (aF (wr.alloc (.cells #[.int .i64 (m:Int),.slice bA wd.length bc] 177)) wr.heap.size #[.int .i64 (m:Int),.slice bA wd.length bc] 177):=aF.box _ _ _
     have Hg:=hid (b8 (.slice bA wd.length bc) wd (wr.alloc (.cells #[.int .i64 (m:Int),.slice bA wd.length bc] 177)) ((HE.out.below dF.out).below CE.out)
      ((HR.out.below (ae wr _) hb.out.size).mono (by have:=hb.out.size;simp;omega)) (λx hx=>(Tz x hx).1))
     clear Tz
     cases hp:cN wd with
     | none =>
      rw[hp]at Hg
      have HM:Hid (aL l=([],m,3)):=HC.out.trans (hcomp.out.trans (aE.Jx PW.out (by rw[LJ.out];exact hk2) hp))
      clear hp hk2
      go_wp2_with fail
      go_at_call 113
      refine Hg.out.mono ?_
      rintro e w2 ⟨rfl,aZ⟩
      unfold kR zR
      have UL:=hid (dF.out.trans ((aA CE.out aZ).mono dF.out.size))
      have e0:=(UM.out.next aZ).cell 0 _ rfl
      have e0':=((UM.out.next aZ).alloc (.cells zR 80)).cell 0 _ rfl
      clear aZ d0 d1
      go_wp2_with fail
      go_quiet (fail)
      go_wp2_with fail
      exact bodyPost_ret (v:=.tuple #[.slice none 0 0,.int .i64 (m:Int),.int .i64 3]) (by simp[results,Tryz.results73,go_sem]) rfl (zA (by rw[HM.out]) (by rw[HM.out]) (by rw[HM.out];rfl) ((UL.out.alloc UL.out.size _).lW _))
     | some r =>
      rw[hp]at Hg
      have HM:Hid (comp [] ls=comp (acc++[r]) (ls.drop (k+1))):=hcomp.out.trans (aE.FU PW.out (by rw[LJ.out];exact hk2) hp)
      have V9:Hid (k+1<=64):=by show _<=_;omega
      clear hp hk2
      go_wp2_with fail
      go_at_call 113
      refine Hg.out.mono ?_
      rintro e w2 ⟨rfl,aZ⟩
      unfold kR cR
      have dG:=hid (aA CE.out aZ)
      have fF:=hid (aA (aA CE.out aZ) (ae w2 (.cells (cR r) 80)))
      have ZX:=hid ((bC V8.out aZ).alloc (.cells (cR r) 80))
      have K3:=hid (aF.box w2 (cR r) 80)
      clear aZ d0 d1
      go_wp2_with (at_builtin;refine oS rfl (.tmp 41) (.tmp 43) rfl _ acc rfl ZX.out fF.out r (by rw[World.size_alloc];rfl) (by have:=LJ.out;omega) ?_;intro v3 w3 LH eP)
      go_roundw
      case rel=>exact⟨k+1,acc++[r],by omega,V9.out,by go_num,by rw[List.length_append,LJ.out];rfl,LH,HM,eP⟩
      case measure=>simp[RowKit.intOf];omega
   ·obtain rfl:k=n:=zo;have HM:Hid (aL l=(acc,0,0)):=HC.out.trans (hcomp.out.trans (aE.Jy (by have:=HN.out;omega)));go_wp2_with fail;exact bodyPost_ret (v:=.tuple #[u2,.int .i64 0,.int .i64 0]) (by simp[results,Tryz.results73,go_sem]) rfl ⟨u2,by rw[HM.out];rfl,by rw[HM.out];exact gK.oH hown.out,λg e=>Nat.le_trans dF.out.size (hown.out.lt g e).1,dF.out.trans (hb.out.mono dF.out.size)⟩
 ·have HC:Hid (aL l=([],eM l,cM l)):=by show _=_;unfold aE.aL;rw[if_neg h0]
  have hd:((cM l:Int)!=0)=true:=by rw[bne_iff_ne];omega
  clear h0;generalize aW l=ls at *;generalize eM l=ln at *;generalize cM l=le at *;go_in;go_wp2_with fail;refine HL.out.mono ?_;rintro e w1 ⟨v1,rfl,-,aK⟩;have dF:=hid aK;clear aK HL;go_wp2_with fail;exact bodyPost_ret (v:=.tuple #[.slice none 0 0,.int .i64 (ln:Int),.int .i64 (le:Int)]) (by simp[results,Tryz.results73,go_sem]) rfl (zA (by rw[HC.out]) (by rw[HC.out]) (by rw[HC.out]) dF.out)
end Ru
namespace Ru
theorem XG:(Tryz.prog.globals[8]?).map (·.type)=some 309:=zk
theorem XH:(Tryz.prog.globals[9]?).map (·.type)=some 309:=zk
theorem Sb:(Tryz.prog.globals[10]?).map (·.type)=some 375:=zk
theorem tSp:(Tryz.prog.globals[4]?).map (·.type)=some 306:=zk
theorem star : "*" ++ "errors.errorString" = "*errors.errorString":=zd
theorem MS(u:TypeId)(h:Tryz.prog.typeName? 3 u=some "*errors.errorString"):u=378 :=
 typeName_ptr_named (nm:= "errors.errorString") (by rw[star];kernel_rfl) zk zd u (by rw[star];exact h)
theorem Ut:(Rows.laid_strings_asciiSpace:DataW Unit)=tabData .u8 asciiSpaceTab:=zk
abbrev MT:List (String×DataW Unit):=[("math/bits.deBruijn32tab",Rows.laid_math_bits_deBruijn32tab),("math/bits.deBruijn64tab",Rows.laid_math_bits_deBruijn64tab),("internal/strconv.uint64pow10",Rows.laid_internal_strconv_uint64pow10),("unicode/utf8.acceptRanges",Rows.laid_unicode_utf8_acceptRanges),("strconv.ErrRange",Rows.laid_strconv_ErrRange),("strconv.ErrSyntax",Rows.laid_strconv_ErrSyntax),("unicode.White_Space",Rows.laid_unicode_White_Space),("strings.asciiSpace",Rows.laid_strings_asciiSpace),("unicode/utf8.first",Rows.laid_unicode_utf8_first)]
theorem iO{W:World}(hL:laidMetH Tryz.prog MT W)(hsh:W.ShapedOpen Tryz.prog):Env W:=by
 rw[MakeChecks.laidMetH_plain _ _ _ zk]at hL;have h1:laidMet Tryz.prog (("math/bits.deBruijn32tab",Rows.laid_math_bits_deBruijn32tab)::_) W:=hL;have h3:=h1.tail.tail;have h5:=h3.tail.tail;have h6:=h5.tail;have h8:laidMet Tryz.prog (("strings.asciiSpace",tabData .u8 asciiSpaceTab)::_) W:=Ut▸h6.tail.tail;have hT:=tabIs_of_head (zs:=pow10Tab) Ad.BN Sb Tryz.underlying375 Tryz.underlying56 zk zk h3;obtain⟨a0,s0,hv0,-,-,-⟩:=laid_sentinel h5 Ad.Ts XH Tryz.underlying309 MS Tryz.underlying378 Tryz.underlying380 rfl rfl Tryz.underlying9 zk zk;obtain⟨a1,s1,hv1,-,-,-⟩:=laid_sentinel h6 Ad.Tq XG Tryz.underlying309 MS Tryz.underlying378 Tryz.underlying380 rfl rfl Tryz.underlying9 zk zk;have hS:=tabIs_of_head (zs:=asciiSpaceTab) Tx.Yk tSp Tryz.underlying306 Tryz.underlying5 zk zk h8;exact⟨⟨Tryz.laysM146.s1_3 W hsh,⟨_,_,hv1⟩,⟨_,_,hv0⟩,hT⟩,⟨Tryz.laysM146.s1_3 W hsh,hS⟩⟩
theorem IZ:rC Tryz.prog 80 :=
 ⟨_,_,_,4,5,75,78,73,3,76,Tryz.underlying80,by kernel_rfl,Tryz.underlying4,Tryz.underlying5,Tryz.underlying75,by kernel_rfl,Tryz.underlying73,Tryz.underlying3,
  Tryz.underlying78,by kernel_rfl,Tryz.underlying76,by kernel_rfl,by kernel_rfl,by kernel_rfl,by kernel_rfl,by kernel_rfl,by kernel_rfl,by kernel_rfl,by kernel_rfl⟩
end Ru
end Go.Proofs.YtbhnbcadgmagpaaGreatDoor
