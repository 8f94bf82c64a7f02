import Derived.Test.YtbhnbcadgmagpaaGreatDoorBig
import Derived.Test.YtbhnbcadgmagpaaGreatDoorJ1
import Derived.Test.YtbhnbcadgmagpaaGreatDoorJ22
import Derived.Test.YtbhnbcadgmagpaaGreatDoorJ23
import Derived.Test.YtbhnbcadgmagpaaGreatDoorJ26
import Derived.Test.YtbhnbcadgmagpaaGreatDoorJ25
import Derived.Test.YtbhnbcadgmagpaaGreatDoorJ16
set_option linter.unusedVariables false
set_option linter.unusedSimpArgs false
set_option maxHeartbeats 2000000
set_option maxRecDepth 100000
namespace Go.Proofs.YtbhnbcadgmagpaaGreatDoor
open Go.aN
namespace oc
open ov (word four hs tl aU bS fD eF body)
open oa (eO gO)
open GD (fP)
open Ss (fW)
def Su(bs:List UInt8):Nat :=
 if aJ bs 9=6 then eO (four bs 12) (four bs 16) (body bs)else if aJ bs 9=17 then fP (four bs 12) (four bs 16) (body bs)else if aJ bs 9=1 then fW (body bs)else 9
def gw(bs:List UInt8):Nat:=if eF bs=0 then Su bs else eF bs
def GG(bs:List UInt8):Nat:=if aJ bs 9=1 then word (body bs) 4 else word (body bs) 0
def GH(bs:List UInt8):Nat:=if aJ bs 9=1 then word (body bs) 4 else word (body bs) 2
def yW(bs:List UInt8):Nat:=if aJ bs 9=6 then aJ (body bs) 13 % 64 else 0
def Bt(bs:List UInt8):Nat:=if aJ bs 9=1 then aJ (body bs) 0 else 0
theorem QO(bs:List UInt8):GG bs<65536:=by have:=aU (body bs) 4;have:=aU (body bs) 0;unfold GG;split <;> omega
theorem QR(bs:List UInt8):GH bs<65536:=by have:=aU (body bs) 4;have:=aU (body bs) 2;unfold GH;split <;> omega
theorem QS(bs:List UInt8):yW bs<64:=by unfold yW;split <;> omega
theorem QT(bs:List UInt8):Bt bs<256:=by have:=dB (body bs) 0;unfold Bt;split <;> omega
theorem EY{bs:List UInt8}(h:eF bs≠0):gw bs=eF bs:=by unfold gw;rw[if_neg h]
theorem uK{bs:List UInt8}(h:eF bs=0)(h9:aJ bs 9=6):gw bs=eO (four bs 12) (four bs 16) (body bs):=by unfold gw Su;rw[if_pos h,if_pos h9]
theorem Bu{bs:List UInt8}(h:eF bs=0)(h9:aJ bs 9=17):gw bs=fP (four bs 12) (four bs 16) (body bs):=by unfold gw Su;rw[if_pos h,if_neg zo,if_pos h9]
theorem rH{bs:List UInt8}(h:eF bs=0)(h9:aJ bs 9=1):gw bs=fW (body bs):=by unfold gw Su;rw[if_pos h,if_neg zo,if_neg zo,if_pos h9]
theorem uL{bs:List UInt8}(h:eF bs=0)(h6:aJ bs 9≠6)(vK:aJ bs 9≠17)(h1:aJ bs 9≠1):gw bs=9:=by unfold gw Su;rw[if_pos h,if_neg h6,if_neg vK,if_neg h1]
theorem rI{bs:List UInt8}(h:gw bs=0):eF bs=0/\(aJ bs 9=6\/aJ bs 9=17\/aJ bs 9=1):=by
 by_cases h0:eF bs=0
 ·refine⟨h0,?_⟩;by_cases a:aJ bs 9=6
  ·exact .inl a
  ·by_cases b:aJ bs 9=17
   ·exact .inr (.inl b)
   ·by_cases d:aJ bs 9=1
    ·exact .inr (.inr d)
    ·have:=uL h0 a b d;omega
 ·have:=EY h0;omega
theorem tE(a b:List UInt8)(i:Nat)(h:i<a.length):aJ (a++b) i=aJ a i:=by unfold aJ;simp[List.getD,List.getElem?_append_left h]
theorem qo(a b:List UInt8)(i:Nat)(h:i+1<a.length):word (a++b) i=word a i:=by
 unfold word;rw[tE _ _ _ zo,tE _ _ _ zo]
theorem Bv(a b:List UInt8)(i:Nat)(h:i+3<a.length):four (a++b) i=four a i:=by
 unfold four;rw[qo _ _ _ zo,qo _ _ _ zo]
theorem GI{bs:List UInt8}(y:List UInt8)(h:eF bs=0)(hl:bs.length+y.length<=1500) :
  eF (bs++y)=0/\aJ (bs++y) 9=aJ bs 9/\four (bs++y) 12=four bs 12/\four (bs++y) 16=four bs 16/\body (bs++y)=body bs:=by
 obtain⟨p1,p2,he⟩:=ov.xH h
 obtain⟨h1,h2,h3,h4,h5,h6,h7⟩:=ov.rG he
 have b0:aJ (bs++y) 0=aJ bs 0:=tE _ _ _ zo
 have hh:hs (bs++y)=hs bs:=by unfold hs;rw[b0]
 have ht:tl (bs++y)=tl bs:=by unfold tl;rw[qo _ _ _ zo]
 have w6:word (bs++y) 6=word bs 6:=qo _ _ _ zo
 refine⟨?_,tE _ _ _ zo,Bv _ _ _ zo,Bv _ _ _ zo,?_⟩
 ·unfold eF;rw[if_neg (by rw[List.length_append];omega),if_neg (by rw[List.length_append];omega)];unfold fD;rw[b0,hh,ht,w6,List.length_append,List.take_append_of_le_length h3,if_neg zo,if_neg zo,if_neg zo,if_neg zo,if_neg zo]
 ·unfold body;rw[hh,ht,List.drop_append_of_le_length h3,List.take_append_of_le_length (by rw[List.length_drop];omega)]
theorem behind{bs:List UInt8}(y:List UInt8)(h:gw bs=0)(hl:bs.length+y.length<=1500) :
  gw (bs++y)=0/\aJ (bs++y) 9=aJ bs 9/\four (bs++y) 12=four bs 12/\four (bs++y) 16=four bs 16/\GG (bs++y)=GG bs/\GH (bs++y)=GH bs/\yW (bs++y)=yW bs/\Bt (bs++y)=Bt bs:=by
 obtain⟨h0,h9⟩:=rI h
 obtain⟨e,e9,X6,X7,eb⟩:=GI y h0 hl
 refine⟨?_,e9,X6,X7,?_,?_,?_,?_⟩
 ·have:=h;unfold gw at this ⊢;rw[if_pos h0]at this;rw[if_pos e];unfold Su at this ⊢;rw[e9,X6,X7,eb];exact this
 ·unfold GG;rw[e9,eb]
 ·unfold GH;rw[e9,eb]
 ·unfold yW;rw[e9,eb]
 ·unfold Bt;rw[e9,eb]
theorem GJ:∀f:Fin 64,gO f.val=true->((f.val &&& 7) &&& (((f.val &&& 7)+255) % 256))=0/\f.val &&& 22≠0:=by decide +kernel
theorem GK{sr ds:Nat}{bs:List UInt8}(h:eO sr ds bs=0):gO (aJ bs 13)=true:=by
 unfold eO at h;split at h
 ·cases h
 split at h
 ·cases h
 split at h
 ·cases h
 split at h
 ·cases h
 split at h
 ·assumption
 ·cases h
theorem flags{bs:List UInt8}(h:gw bs=0)(h9:aJ bs 9=6):(yW bs &&& 7) &&& (((yW bs &&& 7)+255) % 256)=0/\yW bs &&& 22≠0:=by
 obtain⟨h0,_⟩:=rI h;rw[uK h0 h9]at h;have hs:=GK h;have:=oa.K4 (aJ (body bs) 13) (dB _ _);rw[this]at hs
 have hf:yW bs=aJ (body bs) 13 % 64:=by unfold yW;rw[if_pos h9]
 rw[hf];exact GJ ⟨_,Nat.mod_lt _ zo⟩ hs
theorem kinds{bs:List UInt8}(h:gw bs=0)(h9:aJ bs 9=1):Bt bs=8\/Bt bs=0:=by
 obtain⟨h0,_⟩:=rI h;rw[rH h0 h9]at h
 have hf:Bt bs=aJ (body bs) 0:=by unfold Bt;rw[if_pos h9]
 rw[hf];exact Ss.GF h
end oc
end Go.Proofs.YtbhnbcadgmagpaaGreatDoor
namespace Go.Proofs.YtbhnbcadgmagpaaGreatDoor
open Go.Lib (hid)
open Go.ChangeShapes Go.WideShapes Go.ChangeAt Go.RowKit Go.aN
namespace Wi
open ov (word four hs tl mL aU bS fD eF body)
open oa (eO)
open GD (fP)
open Ss (fW)
open oc (gw GG GH yW Bt)
open Ip (Hd)
abbrev jH(a b c d e f h:Int):Array Value:=#[.int .u8 a,.int .u32 b,.int .u32 c,.int .u16 d,.int .u16 e,.int .u8 f,.int .u8 h]
def Pk(w:World)(g:Nat)(a b c d e f h:Int):Prop:=w.heap[g]? = some (.cells (jH a b c d e f h) 95 (0,0))
section
variable {w w':World}{g:Nat}{a b c d e f h:Int}
theorem Pk.box(w:World)(a b c d e f h:Int):Pk (w.alloc (.cells (jH a b c d e f h) 95)) w.heap.size a b c d e f h:=heap_alloc_new w _
theorem Pk.lt(H:Pk w g a b c d e f h):g<w.heap.size:=by
 rcases Nat.lt_or_ge g w.heap.size with hlt | hge
 ·exact hlt
 ·unfold Pk at H;rw[Array.getElem?_eq_none hge]at H;cases H
theorem Pk.keep(H:Pk w g a b c d e f h)(hk:w'.heap[g]? = w.heap[g]?):Pk w' g a b c d e f h:=hk.trans H
theorem Pk.next(H:Pk w g a b c d e f h)(hb:Below w.heap.size w w'):Pk w' g a b c d e f h:=H.keep (hb.block g H.lt)
theorem Pk.other(H:Pk w g a b c d e f h)(k i:Nat)(hk:g≠k)(v:Value):Pk (w.setCell ⟨k,i,none⟩ v) g a b c d e f h:=H.keep (Below.heap_setCell _ _ _ _ hk)
theorem Pk.cells(H:Pk w g a b c d e f h):w.cell? ⟨g,0,none⟩=some (.int .u8 a)/\w.cell? ⟨g,1,none⟩=some (.int .u32 b)/\w.cell? ⟨g,2,none⟩=some (.int .u32 c)/\w.cell? ⟨g,3,none⟩=some (.int .u16 d) ∧
  w.cell? ⟨g,4,none⟩=some (.int .u16 e)/\w.cell? ⟨g,5,none⟩=some (.int .u8 f)/\w.cell? ⟨g,6,none⟩=some (.int .u8 h):=by
 refine⟨?_,?_,?_,?_,?_,?_,?_⟩ <;> exact(cell_of_row w g _ _ _ _ H).trans rfl
theorem Pk.frozen(H:Pk w g a b c d e f h):w.frozen? ⟨g,0,none⟩=false/\w.frozen? ⟨g,1,none⟩=false/\w.frozen? ⟨g,2,none⟩=false/\w.frozen? ⟨g,3,none⟩=false ∧
  w.frozen? ⟨g,4,none⟩=false/\w.frozen? ⟨g,5,none⟩=false/\w.frozen? ⟨g,6,none⟩=false:=by
 refine⟨?_,?_,?_,?_,?_,?_,?_⟩ <;> exact frozen_of_row w g _ _ _ H
abbrev tY(w:World)(g:Nat)(a b c d e f h:Int):World :=
 ((((((w.setCell ⟨g,0,none⟩ (.int .u8 a)).setCell ⟨g,1,none⟩ (.int .u32 b)).setCell ⟨g,2,none⟩ (.int .u32 c)).setCell ⟨g,3,none⟩ (.int .u16 d)).setCell ⟨g,4,none⟩ (.int .u16 e)).setCell ⟨g,5,none⟩ (.int .u8 f)).setCell ⟨g,6,none⟩ (.int .u8 h)
theorem Pk.store(H:Pk w g a b c d e f h)(a' b' c' d' e' f' h':Int):Pk (tY w g a' b' c' d' e' f' h') g a' b' c' d' e' f' h':=by
 have h0:=heap_setCell_same w g 0 _ _ (.int .u8 a') H;have h1:=heap_setCell_same _ g 1 _ _ (.int .u32 b') h0;have h2:=heap_setCell_same _ g 2 _ _ (.int .u32 c') h1;have h3:=heap_setCell_same _ g 3 _ _ (.int .u16 d') h2;have h4:=heap_setCell_same _ g 4 _ _ (.int .u16 e') h3;have h5:=heap_setCell_same _ g 5 _ _ (.int .u8 f') h4;have h6:=heap_setCell_same _ g 6 _ _ (.int .u8 h') h5;simpa[Pk]using h6
theorem b_{B:Nat}{w0 w:World}{g:Nat}(hb:Below B w0 w)(hg:B<=g)(a b c d e f h:Int):Below B w0 (tY w g a b c d e f h) :=
 ((((((hb.setCell (p:=⟨g,0,none⟩) hg _).setCell (p:=⟨g,1,none⟩) hg _).setCell (p:=⟨g,2,none⟩) hg _).setCell (p:=⟨g,3,none⟩) hg _).setCell (p:=⟨g,4,none⟩) hg _).setCell (p:=⟨g,5,none⟩) hg _).setCell (p:=⟨g,6,none⟩) hg _
end
abbrev zeroV:Value:=.agg (jH 0 0 0 0 0 0 0)
abbrev gU(e:Nat):Value:=.tuple #[zeroV,.int .i64 (e:Int)]
abbrev E7(bs:List UInt8):Value:=.agg (jH (aJ bs 9:Int) (four bs 12:Int) (four bs 16:Int) (GG bs:Int) (GH bs:Int) (yW bs:Int) (Bt bs:Int))
abbrev okV(bs:List UInt8):Value:=.tuple #[E7 bs,.int .i64 0]
def wV(bs:List UInt8):Value:=if gw bs=0 then okV bs else gU (gw bs)
theorem E8{bs:List UInt8}(h:gw bs=0):wV bs=okV bs:=by unfold wV;rw[if_pos h]
theorem Ln{bs:List UInt8}(h:gw bs≠0):wV bs=gU (gw bs):=by unfold wV;rw[if_neg h]
theorem QZ{bs:List UInt8}(h:eF bs=0)(h9:aJ bs 9=6)(h0:eO (four bs 12) (four bs 16) (body bs)=0) :
  wV bs = .tuple #[.agg (jH 6 (four bs 12:Int) (four bs 16:Int) (word (body bs) 0:Int) (word (body bs) 2:Int) ((aJ (body bs) 13:Int) % 64) 0),.int .i64 0]:=by
 rw[E8 ((oc.uK h h9).trans h0)]
 unfold okV E7 GG GH yW Bt
 rw[if_neg zo,if_neg zo,if_pos h9,if_neg zo,h9]
 rfl
theorem Q0{bs:List UInt8}(h:eF bs=0)(h9:aJ bs 9=17)(h0:fP (four bs 12) (four bs 16) (body bs)=0) :
  wV bs = .tuple #[.agg (jH 17 (four bs 12:Int) (four bs 16:Int) (word (body bs) 0:Int) (word (body bs) 2:Int) 0 0),.int .i64 0]:=by
 rw[E8 ((oc.Bu h h9).trans h0)]
 unfold okV E7 GG GH yW Bt
 rw[if_neg zo,if_neg zo,if_neg zo,if_neg zo,h9]
 rfl
theorem Oe{bs:List UInt8}(h:eF bs=0)(h9:aJ bs 9=1)(h0:fW (body bs)=0) :
  wV bs = .tuple #[.agg (jH 1 (four bs 12:Int) (four bs 16:Int) (word (body bs) 4:Int) (word (body bs) 4:Int) 0 (aJ (body bs) 0:Int)),.int .i64 0]:=by
 rw[E8 ((oc.rH h h9).trans h0)]
 unfold okV E7 GG GH yW Bt
 rw[if_pos h9,if_pos h9,if_neg zo,if_pos h9,h9]
 rfl
theorem uR{bs:List UInt8}{e:Nat}(h:gw bs=e)(h0:e≠0):wV bs=gU e:=by subst h;exact Ln h0
theorem sP{a b:Value}(h:a=b):Ending.returned a = .returned b:=by rw[h]
theorem bI.own{w w':World}{B n:Nat}{A:Option Addr}{bs:List UInt8}(h:bI w w.heap.size A n bs)(hb:Below w.heap.size w w'):bI w' w.heap.size A n bs:=h.below hb
theorem BG(A:Option Addr)(n c:Nat)(bs:List UInt8)(B:Nat)(W:World)(hb:bI W B A n bs)(hB:B<=W.heap.size)(hc:n<=c)(hm:c<=9223372036854775807)(he:eF bs≠0) :
  Calls Tryz.prog 63 #[.slice A n c] W λe w'=>e = .returned (wV bs)/\Below W.heap.size W w':=by
 have HF:=hid (uR (oc.EY he) he)
 have HB:=hid (hb.alloc hB (.cells (jH 0 0 0 0 0 0 0) 95))
 have HZ:=hid (Pk.box W 0 0 0 0 0 0 0)
 have lJ:=hid ((Below.refl _ W).alloc zl (.cells (jH 0 0 0 0 0 0 0) 95))
 have HP:=hid (λW' (hb:bI W' B A n bs) hB=>Ip.Bz A n c bs B W' hb hB hc hm he)
 have d:((eF bs:Int)!=0)=true:=zt
 generalize eF bs=er at HF HP d
 clear hb he
 go_in
 go_wp2_with fail
 refine(HP.out _ HB.out zt).mono ?_
 rintro e w1 ⟨rfl,aK⟩
 have iM:=(Below.refl _ w1).alloc zl (.cells (Ip.aT 0 0 0 0 0 0 0) 156)
 have HX:=hid (Hd.box w1 0 0 0 0 0 0 0)
 have gN:=hid ((HZ.out.next aK).next iM)
 have cZ:=lJ.out.trans (aK.mono zs)
 have dH:=hid (cZ.trans (iM.mono cZ.size))
 clear aK iM cZ
 obtain⟨x0,x1,x2,x3,x4,x5,x6⟩:=HX.out.cells
 obtain⟨g0,g1,g2,g3,g4,g5,g6⟩:=HX.out.frozen
 obtain⟨z0,z1,z2,z3,z4,z5,z6⟩:=gN.out.cells
 obtain⟨f0,f1,f2,f3,f4,f5,f6⟩:=gN.out.frozen
 go_wp2_with fail
 obtain⟨r0,r1,r2,r3,r4,r5,r6⟩:=(gN.out.store 0 0 0 0 0 0 0).cells
 exact bodyPost_ret (v:=.tuple #[.agg (jH 0 0 0 0 0 0 0),.int .i64 (er:Int)]) (by simp[results,Tryz.results63,go_sem,r0,r1,r2,r3,r4,r5,r6]) rfl ⟨sP HF.out.symm,b_ dH.out zl _ _ _ _ _ _ _⟩
theorem BH(A:Option Addr)(n c:Nat)(bs:List UInt8)(B:Nat)(W:World)(hb:bI W B A n bs)(hB:B<=W.heap.size)(hc:n<=c)(hm:c<=9223372036854775807)(he:Tc.Env W)(h0:eF bs=0)(h9:aJ bs 9=6)(h1:eO (four bs 12) (four bs 16) (body bs)=0) :
  Calls Tryz.prog 63 #[.slice A n c] W λe w'=>e = .returned (wV bs)/\Below W.heap.size W w':=by
 have HF:=hid (QZ h0 h9 h1)
 obtain⟨m,lX⟩:∃m,tl bs - hs bs=m:=⟨_,rfl⟩
 have F_:m<=1000000:=by have:=mL bs;omega
 have HB:=hid (hb.alloc hB (.cells (jH 0 0 0 0 0 0 0) 95))
 have HZ:=hid (Pk.box W 0 0 0 0 0 0 0)
 have lJ:=hid ((Below.refl _ W).alloc zl (.cells (jH 0 0 0 0 0 0 0) 95))
 have HE:=hid (he.alloc (.cells (jH 0 0 0 0 0 0 0) 95))
 have HP:=hid (λW' (hb:bI W' B A n bs) hB=>Ip.eC A n c bs B W' hb hB hc hm h0)
 unfold Ip.gP at HP
 rw[lX]at HP
 have y_:=bS bs 12
 have za:=bS bs 16
 have P2:=hid (λW' A1 c1 B2 (hb:bI W' B2 A1 m (body bs)) hB hc hm he=>Tc.b8 (four bs 12) (four bs 16) A1 m c1 (body bs) B2 W' hb hB hc hm y_ za he)
 rw[h1]at P2
 simp only[Tc.sO (body bs) rfl]at P2
 clear hb he h0 lX
 go_in
 go_wp2_with fail
 refine(HP.out _ HB.out zt).mono ?_
 rintro e w1 ⟨A1,c1,rfl,ht1,hcc,aK,-⟩
 have iM:=(Below.refl _ w1).alloc zl (.cells (Ip.aT 6 (four bs 12) (four bs 16) (hs bs) (tl bs) (aJ bs 8) (word bs 4)) 156)
 have HX:=hid (Hd.box w1 0 0 0 0 0 0 0)
 have HY:=hid (Hd.box w1 6 (four bs 12) (four bs 16) (hs bs) (tl bs) (aJ bs 8) (word bs 4))
 have HT:=hid (ht1.below iM)
 have sX:=hid ((HE.out.below aK zl).below iM zl)
 have gN:=hid ((HZ.out.next aK).next iM)
 have cZ:=lJ.out.trans (aK.mono zs)
 have dH:=hid (cZ.trans (iM.mono cZ.size))
 clear aK iM cZ ht1
 obtain⟨x0,x1,x2,x3,x4,x5,x6⟩:=HX.out.cells
 obtain⟨g0,g1,g2,g3,g4,g5,g6⟩:=HX.out.frozen
 obtain⟨y0,y1,y2,y3,y4,y5,y6⟩:=HY.out.cells
 go_wp2_with fail
 have HQ:=hid (Pk.box (w1.alloc (.cells (Ip.aT 6 (four bs 12) (four bs 16) (hs bs) (tl bs) (aJ bs 8) (word bs 4)) 156)) 6 (four bs 12) (four bs 16) 0 0 0 0)
 have lK:=(Below.refl _ (w1.alloc (.cells (Ip.aT 6 (four bs 12) (four bs 16) (hs bs) (tl bs) (aJ bs 8) (word bs 4)) 156))).alloc zl (.cells (jH 6 (four bs 12) (four bs 16) 0 0 0 0) 95)
 have cK:=hid (gN.out.next lK)
 have dz:=hid (dH.out.trans (lK.mono dH.out.size))
 have hlt:=gN.out.lt
 rw[World.size_alloc]at HQ hlt
 have uS:=hid (HT.out.below (lK.mono zs))
 have EK:=hid (sX.out.below lK zl)
 clear gN HT sX dH lK x0 x1 x2 x3 x4 x5 x6 g0 g1 g2 g3 g4 g5 g6 y0 y1 y2 y3 y4 y5 y6
 refine(P2.out _ _ _ _ uS.out zt hcc.1 hcc.2 EK.out).mono ?_
 rintro e w2 ⟨rfl,aZ⟩
 have eT:=hid (cK.out.next aZ)
 have vZ:=hid (HQ.out.next aZ)
 have mQ:=hid (dz.out.trans (aZ.mono dz.out.size))
 clear aZ cK HQ dz uS
 obtain⟨q0,q1,q2,q3,q4,q5,q6⟩:=vZ.out.cells
 obtain⟨k0,k1,k2,k3,k4,k5,k6⟩:=vZ.out.frozen
 obtain⟨z0,z1,z2,z3,z4,z5,z6⟩:=eT.out.cells
 obtain⟨f0,f1,f2,f3,f4,f5,f6⟩:=eT.out.frozen
 have hne:W.heap.size≠w1.heap.size+1:=zo
 have Lr:w1.heap.size+1≠W.heap.size:=zo
 have hle:W.heap.size<=w1.heap.size+1:=zo
 go_wp2_with fail
 obtain⟨r0,r1,r2,r3,r4,r5,r6⟩:=((((eT.out.other (w1.heap.size+1) 3 hne (.int .u16 (word (body bs) 0:Int))).other (w1.heap.size+1) 4 hne (.int .u16 (word (body bs) 2:Int))).other (w1.heap.size+1) 5 hne (.int .u8 ((aJ (body bs) 13:Int) % 64))).store 6 (four bs 12) (four bs 16) (word (body bs) 0) (word (body bs) 2) ((aJ (body bs) 13:Int) % 64) 0).cells
 exact bodyPost_ret (v:=.tuple #[.agg (jH 6 (four bs 12) (four bs 16) (word (body bs) 0) (word (body bs) 2) ((aJ (body bs) 13:Int) % 64) 0),.int .i64 0]) (by simp[results,Tryz.results63,go_sem,r0,r1,r2,r3,r4,r5,r6]) rfl ⟨sP HF.out.symm,b_ (((mQ.out.setCell (p:=⟨w1.heap.size+1,3,none⟩) hle (.int .u16 (word (body bs) 0:Int))).setCell (p:=⟨w1.heap.size+1,4,none⟩) hle (.int .u16 (word (body bs) 2:Int))).setCell (p:=⟨w1.heap.size+1,5,none⟩) hle (.int .u8 ((aJ (body bs) 13:Int) % 64))) zl _ _ _ _ _ _ _⟩
theorem zb(A:Option Addr)(n c:Nat)(bs:List UInt8)(B:Nat)(W:World)(hb:bI W B A n bs)(hB:B<=W.heap.size)(hc:n<=c)(hm:c<=9223372036854775807)(he:Tc.Env W)(h0:eF bs=0)(h9:aJ bs 9=6)(h1:eO (four bs 12) (four bs 16) (body bs)≠0) :
  Calls Tryz.prog 63 #[.slice A n c] W λe w'=>e = .returned (wV bs)/\Below W.heap.size W w':=by
 have HF:=hid (uR (oc.uK h0 h9) h1)
 obtain⟨m,lX⟩:∃m,tl bs - hs bs=m:=⟨_,rfl⟩
 have F_:m<=1000000:=by have:=mL bs;omega
 have HB:=hid (hb.alloc hB (.cells (jH 0 0 0 0 0 0 0) 95))
 have HZ:=hid (Pk.box W 0 0 0 0 0 0 0)
 have lJ:=hid ((Below.refl _ W).alloc zl (.cells (jH 0 0 0 0 0 0 0) 95))
 have HE:=hid (he.alloc (.cells (jH 0 0 0 0 0 0 0) 95))
 have HP:=hid (λW' (hb:bI W' B A n bs) hB=>Ip.eC A n c bs B W' hb hB hc hm h0)
 unfold Ip.gP at HP
 rw[lX]at HP
 have y_:=bS bs 12
 have za:=bS bs 16
 have P2:=hid (λW' A1 c1 B2 (hb:bI W' B2 A1 m (body bs)) hB hc hm he=>Tc.b8 (four bs 12) (four bs 16) A1 m c1 (body bs) B2 W' hb hB hc hm y_ za he)
 simp only[Tc.mP (body bs) h1]at P2
 have d:((eO (four bs 12) (four bs 16) (body bs):Int)!=0)=true:=zt
 generalize eO (four bs 12) (four bs 16) (body bs)=er at HF P2 d
 clear hb he h0 lX
 go_in
 go_wp2_with fail
 refine(HP.out _ HB.out zt).mono ?_
 rintro e w1 ⟨A1,c1,rfl,ht1,hcc,aK,-⟩
 have iM:=(Below.refl _ w1).alloc zl (.cells (Ip.aT 6 (four bs 12) (four bs 16) (hs bs) (tl bs) (aJ bs 8) (word bs 4)) 156)
 have HX:=hid (Hd.box w1 0 0 0 0 0 0 0)
 have HY:=hid (Hd.box w1 6 (four bs 12) (four bs 16) (hs bs) (tl bs) (aJ bs 8) (word bs 4))
 have HT:=hid (ht1.below iM)
 have sX:=hid ((HE.out.below aK zl).below iM zl)
 have gN:=hid ((HZ.out.next aK).next iM)
 have cZ:=lJ.out.trans (aK.mono zs)
 have dH:=hid (cZ.trans (iM.mono cZ.size))
 clear aK iM cZ ht1
 obtain⟨x0,x1,x2,x3,x4,x5,x6⟩:=HX.out.cells
 obtain⟨g0,g1,g2,g3,g4,g5,g6⟩:=HX.out.frozen
 obtain⟨y0,y1,y2,y3,y4,y5,y6⟩:=HY.out.cells
 go_wp2_with fail
 have HQ:=hid (Pk.box (w1.alloc (.cells (Ip.aT 6 (four bs 12) (four bs 16) (hs bs) (tl bs) (aJ bs 8) (word bs 4)) 156)) 6 (four bs 12) (four bs 16) 0 0 0 0)
 have lK:=(Below.refl _ (w1.alloc (.cells (Ip.aT 6 (four bs 12) (four bs 16) (hs bs) (tl bs) (aJ bs 8) (word bs 4)) 156))).alloc zl (.cells (jH 6 (four bs 12) (four bs 16) 0 0 0 0) 95)
 have cK:=hid (gN.out.next lK)
 have dz:=hid (dH.out.trans (lK.mono dH.out.size))
 have hlt:=gN.out.lt
 rw[World.size_alloc]at HQ hlt
 have uS:=hid (HT.out.below (lK.mono zs))
 have EK:=hid (sX.out.below lK zl)
 clear gN HT sX dH lK x0 x1 x2 x3 x4 x5 x6 g0 g1 g2 g3 g4 g5 g6 y0 y1 y2 y3 y4 y5 y6
 refine(P2.out _ _ _ _ uS.out zt hcc.1 hcc.2 EK.out).mono ?_
 rintro e w2 ⟨rfl,aZ⟩
 have eT:=hid (cK.out.next aZ)
 have vZ:=hid (HQ.out.next aZ)
 have mQ:=hid (dz.out.trans (aZ.mono dz.out.size))
 clear aZ cK HQ dz uS
 obtain⟨q0,q1,q2,q3,q4,q5,q6⟩:=vZ.out.cells
 obtain⟨k0,k1,k2,k3,k4,k5,k6⟩:=vZ.out.frozen
 obtain⟨z0,z1,z2,z3,z4,z5,z6⟩:=eT.out.cells
 obtain⟨f0,f1,f2,f3,f4,f5,f6⟩:=eT.out.frozen
 have hne:W.heap.size≠w1.heap.size+1:=zo
 have Lr:w1.heap.size+1≠W.heap.size:=zo
 have hle:W.heap.size<=w1.heap.size+1:=zo
 go_wp2_with fail
 obtain⟨r0,r1,r2,r3,r4,r5,r6⟩:=((((eT.out.other (w1.heap.size+1) 3 hne (.int .u16 0)).other (w1.heap.size+1) 4 hne (.int .u16 0)).other (w1.heap.size+1) 5 hne (.int .u8 0)).store 0 0 0 0 0 0 0).cells
 exact bodyPost_ret (v:=.tuple #[.agg (jH 0 0 0 0 0 0 0),.int .i64 (er:Int)]) (by simp[results,Tryz.results63,go_sem,r0,r1,r2,r3,r4,r5,r6]) rfl ⟨sP HF.out.symm,b_ (((mQ.out.setCell (p:=⟨w1.heap.size+1,3,none⟩) hle (.int .u16 0)).setCell (p:=⟨w1.heap.size+1,4,none⟩) hle (.int .u16 0)).setCell (p:=⟨w1.heap.size+1,5,none⟩) hle (.int .u8 0)) zl _ _ _ _ _ _ _⟩
theorem BI(A:Option Addr)(n c:Nat)(bs:List UInt8)(B:Nat)(W:World)(hb:bI W B A n bs)(hB:B<=W.heap.size)(hc:n<=c)(hm:c<=9223372036854775807)(he:Tc.Env W)(h0:eF bs=0)(h9:aJ bs 9=17)(h1:fP (four bs 12) (four bs 16) (body bs)=0) :
  Calls Tryz.prog 63 #[.slice A n c] W λe w'=>e = .returned (wV bs)/\Below W.heap.size W w':=by
 have HF:=hid (Q0 h0 h9 h1)
 obtain⟨m,lX⟩:∃m,tl bs - hs bs=m:=⟨_,rfl⟩
 have F_:m<=1000000:=by have:=mL bs;omega
 have HB:=hid (hb.alloc hB (.cells (jH 0 0 0 0 0 0 0) 95))
 have HZ:=hid (Pk.box W 0 0 0 0 0 0 0)
 have lJ:=hid ((Below.refl _ W).alloc zl (.cells (jH 0 0 0 0 0 0 0) 95))
 have HE:=hid (he.alloc (.cells (jH 0 0 0 0 0 0 0) 95))
 have HP:=hid (λW' (hb:bI W' B A n bs) hB=>Ip.eC A n c bs B W' hb hB hc hm h0)
 unfold Ip.gP at HP
 rw[lX]at HP
 have y_:=bS bs 12
 have za:=bS bs 16
 have P2:=hid (λW' A1 c1 B2 (hb:bI W' B2 A1 m (body bs)) hB hc hm=>Ud.b8 (four bs 12) (four bs 16) A1 m c1 (body bs) B2 W' hb hB hc hm y_ za)
 rw[h1]at P2
 simp only[Ud.sO (body bs) rfl]at P2
 clear hb he h0 lX
 go_in
 go_wp2_with fail
 refine(HP.out _ HB.out zt).mono ?_
 rintro e w1 ⟨A1,c1,rfl,ht1,hcc,aK,-⟩
 have iM:=(Below.refl _ w1).alloc zl (.cells (Ip.aT 17 (four bs 12) (four bs 16) (hs bs) (tl bs) (aJ bs 8) (word bs 4)) 156)
 have HX:=hid (Hd.box w1 0 0 0 0 0 0 0)
 have HY:=hid (Hd.box w1 17 (four bs 12) (four bs 16) (hs bs) (tl bs) (aJ bs 8) (word bs 4))
 have HT:=hid (ht1.below iM)
 have sX:=hid ((HE.out.below aK zl).below iM zl)
 have gN:=hid ((HZ.out.next aK).next iM)
 have cZ:=lJ.out.trans (aK.mono zs)
 have dH:=hid (cZ.trans (iM.mono cZ.size))
 clear aK iM cZ ht1
 obtain⟨x0,x1,x2,x3,x4,x5,x6⟩:=HX.out.cells
 obtain⟨g0,g1,g2,g3,g4,g5,g6⟩:=HX.out.frozen
 obtain⟨y0,y1,y2,y3,y4,y5,y6⟩:=HY.out.cells
 go_wp2_with fail
 have HQ:=hid (Pk.box (w1.alloc (.cells (Ip.aT 17 (four bs 12) (four bs 16) (hs bs) (tl bs) (aJ bs 8) (word bs 4)) 156)) 17 (four bs 12) (four bs 16) 0 0 0 0)
 have lK:=(Below.refl _ (w1.alloc (.cells (Ip.aT 17 (four bs 12) (four bs 16) (hs bs) (tl bs) (aJ bs 8) (word bs 4)) 156))).alloc zl (.cells (jH 17 (four bs 12) (four bs 16) 0 0 0 0) 95)
 have cK:=hid (gN.out.next lK)
 have dz:=hid (dH.out.trans (lK.mono dH.out.size))
 have hlt:=gN.out.lt
 rw[World.size_alloc]at HQ hlt
 have uS:=hid (HT.out.below (lK.mono zs))
 have EK:=hid (sX.out.below lK zl)
 clear gN HT sX dH lK x0 x1 x2 x3 x4 x5 x6 g0 g1 g2 g3 g4 g5 g6 y0 y1 y2 y3 y4 y5 y6
 refine(P2.out _ _ _ _ uS.out zt hcc.1 hcc.2).mono ?_
 rintro e w2 ⟨rfl,aZ⟩
 have eT:=hid (cK.out.next aZ)
 have vZ:=hid (HQ.out.next aZ)
 have mQ:=hid (dz.out.trans (aZ.mono dz.out.size))
 clear aZ cK HQ dz uS
 obtain⟨q0,q1,q2,q3,q4,q5,q6⟩:=vZ.out.cells
 obtain⟨k0,k1,k2,k3,k4,k5,k6⟩:=vZ.out.frozen
 obtain⟨z0,z1,z2,z3,z4,z5,z6⟩:=eT.out.cells
 obtain⟨f0,f1,f2,f3,f4,f5,f6⟩:=eT.out.frozen
 have hne:W.heap.size≠w1.heap.size+1:=zo
 have Lr:w1.heap.size+1≠W.heap.size:=zo
 have hle:W.heap.size<=w1.heap.size+1:=zo
 go_wp2_with fail
 obtain⟨r0,r1,r2,r3,r4,r5,r6⟩:=(((eT.out.other (w1.heap.size+1) 3 hne (.int .u16 (word (body bs) 0:Int))).other (w1.heap.size+1) 4 hne (.int .u16 (word (body bs) 2:Int))).store 17 (four bs 12) (four bs 16) (word (body bs) 0) (word (body bs) 2) 0 0).cells
 exact bodyPost_ret (v:=.tuple #[.agg (jH 17 (four bs 12) (four bs 16) (word (body bs) 0) (word (body bs) 2) 0 0),.int .i64 0]) (by simp[results,Tryz.results63,go_sem,r0,r1,r2,r3,r4,r5,r6]) rfl ⟨sP HF.out.symm,b_ ((mQ.out.setCell (p:=⟨w1.heap.size+1,3,none⟩) hle (.int .u16 (word (body bs) 0:Int))).setCell (p:=⟨w1.heap.size+1,4,none⟩) hle (.int .u16 (word (body bs) 2:Int))) zl _ _ _ _ _ _ _⟩
theorem aaM(A:Option Addr)(n c:Nat)(bs:List UInt8)(B:Nat)(W:World)(hb:bI W B A n bs)(hB:B<=W.heap.size)(hc:n<=c)(hm:c<=9223372036854775807)(he:Tc.Env W)(h0:eF bs=0)(h9:aJ bs 9=17)(h1:fP (four bs 12) (four bs 16) (body bs)≠0) :
  Calls Tryz.prog 63 #[.slice A n c] W λe w'=>e = .returned (wV bs)/\Below W.heap.size W w':=by
 have HF:=hid (uR (oc.Bu h0 h9) h1)
 obtain⟨m,lX⟩:∃m,tl bs - hs bs=m:=⟨_,rfl⟩
 have F_:m<=1000000:=by have:=mL bs;omega
 have HB:=hid (hb.alloc hB (.cells (jH 0 0 0 0 0 0 0) 95))
 have HZ:=hid (Pk.box W 0 0 0 0 0 0 0)
 have lJ:=hid ((Below.refl _ W).alloc zl (.cells (jH 0 0 0 0 0 0 0) 95))
 have HE:=hid (he.alloc (.cells (jH 0 0 0 0 0 0 0) 95))
 have HP:=hid (λW' (hb:bI W' B A n bs) hB=>Ip.eC A n c bs B W' hb hB hc hm h0)
 unfold Ip.gP at HP
 rw[lX]at HP
 have y_:=bS bs 12
 have za:=bS bs 16
 have P2:=hid (λW' A1 c1 B2 (hb:bI W' B2 A1 m (body bs)) hB hc hm=>Ud.b8 (four bs 12) (four bs 16) A1 m c1 (body bs) B2 W' hb hB hc hm y_ za)
 simp only[Ud.mP (body bs) h1]at P2
 have d:((fP (four bs 12) (four bs 16) (body bs):Int)!=0)=true:=zt
 generalize fP (four bs 12) (four bs 16) (body bs)=er at HF P2 d
 clear hb he h0 lX
 go_in
 go_wp2_with fail
 refine(HP.out _ HB.out zt).mono ?_
 rintro e w1 ⟨A1,c1,rfl,ht1,hcc,aK,-⟩
 have iM:=(Below.refl _ w1).alloc zl (.cells (Ip.aT 17 (four bs 12) (four bs 16) (hs bs) (tl bs) (aJ bs 8) (word bs 4)) 156)
 have HX:=hid (Hd.box w1 0 0 0 0 0 0 0)
 have HY:=hid (Hd.box w1 17 (four bs 12) (four bs 16) (hs bs) (tl bs) (aJ bs 8) (word bs 4))
 have HT:=hid (ht1.below iM)
 have sX:=hid ((HE.out.below aK zl).below iM zl)
 have gN:=hid ((HZ.out.next aK).next iM)
 have cZ:=lJ.out.trans (aK.mono zs)
 have dH:=hid (cZ.trans (iM.mono cZ.size))
 clear aK iM cZ ht1
 obtain⟨x0,x1,x2,x3,x4,x5,x6⟩:=HX.out.cells
 obtain⟨g0,g1,g2,g3,g4,g5,g6⟩:=HX.out.frozen
 obtain⟨y0,y1,y2,y3,y4,y5,y6⟩:=HY.out.cells
 go_wp2_with fail
 have HQ:=hid (Pk.box (w1.alloc (.cells (Ip.aT 17 (four bs 12) (four bs 16) (hs bs) (tl bs) (aJ bs 8) (word bs 4)) 156)) 17 (four bs 12) (four bs 16) 0 0 0 0)
 have lK:=(Below.refl _ (w1.alloc (.cells (Ip.aT 17 (four bs 12) (four bs 16) (hs bs) (tl bs) (aJ bs 8) (word bs 4)) 156))).alloc zl (.cells (jH 17 (four bs 12) (four bs 16) 0 0 0 0) 95)
 have cK:=hid (gN.out.next lK)
 have dz:=hid (dH.out.trans (lK.mono dH.out.size))
 have hlt:=gN.out.lt
 rw[World.size_alloc]at HQ hlt
 have uS:=hid (HT.out.below (lK.mono zs))
 have EK:=hid (sX.out.below lK zl)
 clear gN HT sX dH lK x0 x1 x2 x3 x4 x5 x6 g0 g1 g2 g3 g4 g5 g6 y0 y1 y2 y3 y4 y5 y6
 refine(P2.out _ _ _ _ uS.out zt hcc.1 hcc.2).mono ?_
 rintro e w2 ⟨rfl,aZ⟩
 have eT:=hid (cK.out.next aZ)
 have vZ:=hid (HQ.out.next aZ)
 have mQ:=hid (dz.out.trans (aZ.mono dz.out.size))
 clear aZ cK HQ dz uS
 obtain⟨q0,q1,q2,q3,q4,q5,q6⟩:=vZ.out.cells
 obtain⟨k0,k1,k2,k3,k4,k5,k6⟩:=vZ.out.frozen
 obtain⟨z0,z1,z2,z3,z4,z5,z6⟩:=eT.out.cells
 obtain⟨f0,f1,f2,f3,f4,f5,f6⟩:=eT.out.frozen
 have hne:W.heap.size≠w1.heap.size+1:=zo
 have Lr:w1.heap.size+1≠W.heap.size:=zo
 have hle:W.heap.size<=w1.heap.size+1:=zo
 go_wp2_with fail
 obtain⟨r0,r1,r2,r3,r4,r5,r6⟩:=(((eT.out.other (w1.heap.size+1) 3 hne (.int .u16 0)).other (w1.heap.size+1) 4 hne (.int .u16 0)).store 0 0 0 0 0 0 0).cells
 exact bodyPost_ret (v:=.tuple #[.agg (jH 0 0 0 0 0 0 0),.int .i64 (er:Int)]) (by simp[results,Tryz.results63,go_sem,r0,r1,r2,r3,r4,r5,r6]) rfl ⟨sP HF.out.symm,b_ ((mQ.out.setCell (p:=⟨w1.heap.size+1,3,none⟩) hle (.int .u16 0)).setCell (p:=⟨w1.heap.size+1,4,none⟩) hle (.int .u16 0)) zl _ _ _ _ _ _ _⟩
theorem ze(A:Option Addr)(n c:Nat)(bs:List UInt8)(B:Nat)(W:World)(hb:bI W B A n bs)(hB:B<=W.heap.size)(hc:n<=c)(hm:c<=9223372036854775807)(he:Tc.Env W)(h0:eF bs=0)(h9:aJ bs 9=1)(h1:fW (body bs)=0) :
  Calls Tryz.prog 63 #[.slice A n c] W λe w'=>e = .returned (wV bs)/\Below W.heap.size W w':=by
 have HF:=hid (Oe h0 h9 h1)
 obtain⟨m,lX⟩:∃m,tl bs - hs bs=m:=⟨_,rfl⟩
 have F_:m<=1000000:=by have:=mL bs;omega
 have HB:=hid (hb.alloc hB (.cells (jH 0 0 0 0 0 0 0) 95))
 have HZ:=hid (Pk.box W 0 0 0 0 0 0 0)
 have lJ:=hid ((Below.refl _ W).alloc zl (.cells (jH 0 0 0 0 0 0 0) 95))
 have HE:=hid (he.alloc (.cells (jH 0 0 0 0 0 0 0) 95))
 have HP:=hid (λW' (hb:bI W' B A n bs) hB=>Ip.eC A n c bs B W' hb hB hc hm h0)
 unfold Ip.gP at HP
 rw[lX]at HP
 have y_:=bS bs 12
 have za:=bS bs 16
 have P2:=hid (λW' A1 c1 B2 (hb:bI W' B2 A1 m (body bs)) hB hc hm=>Ic.b8 A1 m c1 (body bs) B2 W' hb hB hc hm)
 rw[h1]at P2
 simp only[Ic.sO (body bs) rfl]at P2
 clear hb he h0 lX
 go_in
 go_wp2_with fail
 refine(HP.out _ HB.out zt).mono ?_
 rintro e w1 ⟨A1,c1,rfl,ht1,hcc,aK,-⟩
 have iM:=(Below.refl _ w1).alloc zl (.cells (Ip.aT 1 (four bs 12) (four bs 16) (hs bs) (tl bs) (aJ bs 8) (word bs 4)) 156)
 have HX:=hid (Hd.box w1 0 0 0 0 0 0 0)
 have HY:=hid (Hd.box w1 1 (four bs 12) (four bs 16) (hs bs) (tl bs) (aJ bs 8) (word bs 4))
 have HT:=hid (ht1.below iM)
 have sX:=hid ((HE.out.below aK zl).below iM zl)
 have gN:=hid ((HZ.out.next aK).next iM)
 have cZ:=lJ.out.trans (aK.mono zs)
 have dH:=hid (cZ.trans (iM.mono cZ.size))
 clear aK iM cZ ht1
 obtain⟨x0,x1,x2,x3,x4,x5,x6⟩:=HX.out.cells
 obtain⟨g0,g1,g2,g3,g4,g5,g6⟩:=HX.out.frozen
 obtain⟨y0,y1,y2,y3,y4,y5,y6⟩:=HY.out.cells
 go_wp2_with fail
 have HQ:=hid (Pk.box (w1.alloc (.cells (Ip.aT 1 (four bs 12) (four bs 16) (hs bs) (tl bs) (aJ bs 8) (word bs 4)) 156)) 1 (four bs 12) (four bs 16) 0 0 0 0)
 have lK:=(Below.refl _ (w1.alloc (.cells (Ip.aT 1 (four bs 12) (four bs 16) (hs bs) (tl bs) (aJ bs 8) (word bs 4)) 156))).alloc zl (.cells (jH 1 (four bs 12) (four bs 16) 0 0 0 0) 95)
 have cK:=hid (gN.out.next lK)
 have dz:=hid (dH.out.trans (lK.mono dH.out.size))
 have hlt:=gN.out.lt
 rw[World.size_alloc]at HQ hlt
 have uS:=hid (HT.out.below (lK.mono zs))
 have EK:=hid (sX.out.below lK zl)
 clear gN HT sX dH lK x0 x1 x2 x3 x4 x5 x6 g0 g1 g2 g3 g4 g5 g6 y0 y1 y2 y3 y4 y5 y6
 refine(P2.out _ _ _ _ uS.out zt hcc.1 hcc.2).mono ?_
 rintro e w2 ⟨rfl,aZ⟩
 have eT:=hid (cK.out.next aZ)
 have vZ:=hid (HQ.out.next aZ)
 have mQ:=hid (dz.out.trans (aZ.mono dz.out.size))
 clear aZ cK HQ dz uS
 obtain⟨q0,q1,q2,q3,q4,q5,q6⟩:=vZ.out.cells
 obtain⟨k0,k1,k2,k3,k4,k5,k6⟩:=vZ.out.frozen
 obtain⟨z0,z1,z2,z3,z4,z5,z6⟩:=eT.out.cells
 obtain⟨f0,f1,f2,f3,f4,f5,f6⟩:=eT.out.frozen
 have hne:W.heap.size≠w1.heap.size+1:=zo
 have Lr:w1.heap.size+1≠W.heap.size:=zo
 have hle:W.heap.size<=w1.heap.size+1:=zo
 go_wp2_with fail
 obtain⟨r0,r1,r2,r3,r4,r5,r6⟩:=((((eT.out.other (w1.heap.size+1) 6 hne (.int .u8 (aJ (body bs) 0:Int))).other (w1.heap.size+1) 3 hne (.int .u16 (word (body bs) 4:Int))).other (w1.heap.size+1) 4 hne (.int .u16 (word (body bs) 4:Int))).store 1 (four bs 12) (four bs 16) (word (body bs) 4) (word (body bs) 4) 0 (aJ (body bs) 0)).cells
 exact bodyPost_ret (v:=.tuple #[.agg (jH 1 (four bs 12) (four bs 16) (word (body bs) 4) (word (body bs) 4) 0 (aJ (body bs) 0)),.int .i64 0]) (by simp[results,Tryz.results63,go_sem,r0,r1,r2,r3,r4,r5,r6]) rfl ⟨sP HF.out.symm,b_ (((mQ.out.setCell (p:=⟨w1.heap.size+1,6,none⟩) hle (.int .u8 (aJ (body bs) 0:Int))).setCell (p:=⟨w1.heap.size+1,3,none⟩) hle (.int .u16 (word (body bs) 4:Int))).setCell (p:=⟨w1.heap.size+1,4,none⟩) hle (.int .u16 (word (body bs) 4:Int))) zl _ _ _ _ _ _ _⟩
theorem v_(A:Option Addr)(n c:Nat)(bs:List UInt8)(B:Nat)(W:World)(hb:bI W B A n bs)(hB:B<=W.heap.size)(hc:n<=c)(hm:c<=9223372036854775807)(he:Tc.Env W)(h0:eF bs=0)(h9:aJ bs 9=1)(h1:fW (body bs)≠0) :
  Calls Tryz.prog 63 #[.slice A n c] W λe w'=>e = .returned (wV bs)/\Below W.heap.size W w':=by
 have HF:=hid (uR (oc.rH h0 h9) h1)
 obtain⟨m,lX⟩:∃m,tl bs - hs bs=m:=⟨_,rfl⟩
 have F_:m<=1000000:=by have:=mL bs;omega
 have HB:=hid (hb.alloc hB (.cells (jH 0 0 0 0 0 0 0) 95))
 have HZ:=hid (Pk.box W 0 0 0 0 0 0 0)
 have lJ:=hid ((Below.refl _ W).alloc zl (.cells (jH 0 0 0 0 0 0 0) 95))
 have HE:=hid (he.alloc (.cells (jH 0 0 0 0 0 0 0) 95))
 have HP:=hid (λW' (hb:bI W' B A n bs) hB=>Ip.eC A n c bs B W' hb hB hc hm h0)
 unfold Ip.gP at HP
 rw[lX]at HP
 have y_:=bS bs 12
 have za:=bS bs 16
 have P2:=hid (λW' A1 c1 B2 (hb:bI W' B2 A1 m (body bs)) hB hc hm=>Ic.b8 A1 m c1 (body bs) B2 W' hb hB hc hm)
 simp only[Ic.mP (body bs) h1]at P2
 have d:((fW (body bs):Int)!=0)=true:=zt
 generalize fW (body bs)=er at HF P2 d
 clear hb he h0 lX
 go_in
 go_wp2_with fail
 refine(HP.out _ HB.out zt).mono ?_
 rintro e w1 ⟨A1,c1,rfl,ht1,hcc,aK,-⟩
 have iM:=(Below.refl _ w1).alloc zl (.cells (Ip.aT 1 (four bs 12) (four bs 16) (hs bs) (tl bs) (aJ bs 8) (word bs 4)) 156)
 have HX:=hid (Hd.box w1 0 0 0 0 0 0 0)
 have HY:=hid (Hd.box w1 1 (four bs 12) (four bs 16) (hs bs) (tl bs) (aJ bs 8) (word bs 4))
 have HT:=hid (ht1.below iM)
 have sX:=hid ((HE.out.below aK zl).below iM zl)
 have gN:=hid ((HZ.out.next aK).next iM)
 have cZ:=lJ.out.trans (aK.mono zs)
 have dH:=hid (cZ.trans (iM.mono cZ.size))
 clear aK iM cZ ht1
 obtain⟨x0,x1,x2,x3,x4,x5,x6⟩:=HX.out.cells
 obtain⟨g0,g1,g2,g3,g4,g5,g6⟩:=HX.out.frozen
 obtain⟨y0,y1,y2,y3,y4,y5,y6⟩:=HY.out.cells
 go_wp2_with fail
 have HQ:=hid (Pk.box (w1.alloc (.cells (Ip.aT 1 (four bs 12) (four bs 16) (hs bs) (tl bs) (aJ bs 8) (word bs 4)) 156)) 1 (four bs 12) (four bs 16) 0 0 0 0)
 have lK:=(Below.refl _ (w1.alloc (.cells (Ip.aT 1 (four bs 12) (four bs 16) (hs bs) (tl bs) (aJ bs 8) (word bs 4)) 156))).alloc zl (.cells (jH 1 (four bs 12) (four bs 16) 0 0 0 0) 95)
 have cK:=hid (gN.out.next lK)
 have dz:=hid (dH.out.trans (lK.mono dH.out.size))
 have hlt:=gN.out.lt
 rw[World.size_alloc]at HQ hlt
 have uS:=hid (HT.out.below (lK.mono zs))
 have EK:=hid (sX.out.below lK zl)
 clear gN HT sX dH lK x0 x1 x2 x3 x4 x5 x6 g0 g1 g2 g3 g4 g5 g6 y0 y1 y2 y3 y4 y5 y6
 refine(P2.out _ _ _ _ uS.out zt hcc.1 hcc.2).mono ?_
 rintro e w2 ⟨rfl,aZ⟩
 have eT:=hid (cK.out.next aZ)
 have vZ:=hid (HQ.out.next aZ)
 have mQ:=hid (dz.out.trans (aZ.mono dz.out.size))
 clear aZ cK HQ dz uS
 obtain⟨q0,q1,q2,q3,q4,q5,q6⟩:=vZ.out.cells
 obtain⟨k0,k1,k2,k3,k4,k5,k6⟩:=vZ.out.frozen
 obtain⟨z0,z1,z2,z3,z4,z5,z6⟩:=eT.out.cells
 obtain⟨f0,f1,f2,f3,f4,f5,f6⟩:=eT.out.frozen
 have hne:W.heap.size≠w1.heap.size+1:=zo
 have Lr:w1.heap.size+1≠W.heap.size:=zo
 have hle:W.heap.size<=w1.heap.size+1:=zo
 go_wp2_with fail
 obtain⟨r0,r1,r2,r3,r4,r5,r6⟩:=((((eT.out.other (w1.heap.size+1) 6 hne (.int .u8 0)).other (w1.heap.size+1) 3 hne (.int .u16 0)).other (w1.heap.size+1) 4 hne (.int .u16 0)).store 0 0 0 0 0 0 0).cells
 exact bodyPost_ret (v:=.tuple #[.agg (jH 0 0 0 0 0 0 0),.int .i64 (er:Int)]) (by simp[results,Tryz.results63,go_sem,r0,r1,r2,r3,r4,r5,r6]) rfl ⟨sP HF.out.symm,b_ (((mQ.out.setCell (p:=⟨w1.heap.size+1,6,none⟩) hle (.int .u8 0)).setCell (p:=⟨w1.heap.size+1,3,none⟩) hle (.int .u16 0)).setCell (p:=⟨w1.heap.size+1,4,none⟩) hle (.int .u16 0)) zl _ _ _ _ _ _ _⟩
theorem BJ(A:Option Addr)(n c:Nat)(bs:List UInt8)(B:Nat)(W:World)(hb:bI W B A n bs)(hB:B<=W.heap.size)(hc:n<=c)(hm:c<=9223372036854775807)(he:Tc.Env W)(h0:eF bs=0)(h9:aJ bs 9≠6)(vK:aJ bs 9≠17)(h1:aJ bs 9≠1) :
  Calls Tryz.prog 63 #[.slice A n c] W λe w'=>e = .returned (wV bs)/\Below W.heap.size W w':=by
 have HF:=hid (uR (oc.uL h0 h9 vK h1) (by omega:9≠0))
 obtain⟨m,lX⟩:∃m,tl bs - hs bs=m:=⟨_,rfl⟩
 have F_:m<=1000000:=by have:=mL bs;omega
 have HB:=hid (hb.alloc hB (.cells (jH 0 0 0 0 0 0 0) 95))
 have HZ:=hid (Pk.box W 0 0 0 0 0 0 0)
 have lJ:=hid ((Below.refl _ W).alloc zl (.cells (jH 0 0 0 0 0 0 0) 95))
 have HE:=hid (he.alloc (.cells (jH 0 0 0 0 0 0 0) 95))
 have HP:=hid (λW' (hb:bI W' B A n bs) hB=>Ip.eC A n c bs B W' hb hB hc hm h0)
 unfold Ip.gP at HP
 rw[lX]at HP
 have d6:((aJ bs 9:Int)==6)=false:=zt
 have d17:((aJ bs 9:Int)==17)=false:=zt
 have d1:((aJ bs 9:Int)==1)=false:=zt
 clear hb he h0 lX
 go_in
 go_wp2_with fail
 refine(HP.out _ HB.out zt).mono ?_
 rintro e w1 ⟨A1,c1,rfl,ht1,hcc,aK,-⟩
 have iM:=(Below.refl _ w1).alloc zl (.cells (Ip.aT (aJ bs 9) (four bs 12) (four bs 16) (hs bs) (tl bs) (aJ bs 8) (word bs 4)) 156)
 have HX:=hid (Hd.box w1 0 0 0 0 0 0 0)
 have HY:=hid (Hd.box w1 (aJ bs 9) (four bs 12) (four bs 16) (hs bs) (tl bs) (aJ bs 8) (word bs 4))
 have HT:=hid (ht1.below iM)
 have sX:=hid ((HE.out.below aK zl).below iM zl)
 have gN:=hid ((HZ.out.next aK).next iM)
 have cZ:=lJ.out.trans (aK.mono zs)
 have dH:=hid (cZ.trans (iM.mono cZ.size))
 clear aK iM cZ ht1
 obtain⟨x0,x1,x2,x3,x4,x5,x6⟩:=HX.out.cells
 obtain⟨g0,g1,g2,g3,g4,g5,g6⟩:=HX.out.frozen
 obtain⟨y0,y1,y2,y3,y4,y5,y6⟩:=HY.out.cells
 have HQ:=hid (Pk.box (w1.alloc (.cells (Ip.aT (aJ bs 9) (four bs 12) (four bs 16) (hs bs) (tl bs) (aJ bs 8) (word bs 4)) 156)) (aJ bs 9) (four bs 12) (four bs 16) 0 0 0 0)
 have lK:=(Below.refl _ (w1.alloc (.cells (Ip.aT (aJ bs 9) (four bs 12) (four bs 16) (hs bs) (tl bs) (aJ bs 8) (word bs 4)) 156))).alloc zl (.cells (jH (aJ bs 9) (four bs 12) (four bs 16) 0 0 0 0) 95)
 have cK:=hid (gN.out.next lK)
 have dz:=hid (dH.out.trans (lK.mono dH.out.size))
 have hlt:=gN.out.lt
 rw[World.size_alloc]at HQ hlt
 clear lK hlt
 obtain⟨z0,z1,z2,z3,z4,z5,z6⟩:=cK.out.cells
 obtain⟨f0,f1,f2,f3,f4,f5,f6⟩:=cK.out.frozen
 obtain⟨q0,q1,q2,q3,q4,q5,q6⟩:=HQ.out.cells
 obtain⟨k0,k1,k2,k3,k4,k5,k6⟩:=HQ.out.frozen
 go_wp2_with fail
 obtain⟨r0,r1,r2,r3,r4,r5,r6⟩:=(cK.out.store 0 0 0 0 0 0 0).cells
 exact bodyPost_ret (v:=.tuple #[.agg (jH 0 0 0 0 0 0 0),.int .i64 9]) (by simp[results,Tryz.results63,go_sem,r0,r1,r2,r3,r4,r5,r6]) rfl ⟨sP HF.out.symm,b_ dz.out zl _ _ _ _ _ _ _⟩
theorem b8(A:Option Addr)(n c:Nat)(bs:List UInt8)(B:Nat)(W:World)(hb:bI W B A n bs)(hB:B<=W.heap.size)(hc:n<=c)(hm:c<=9223372036854775807)(he:Tc.Env W) :
  Calls Tryz.prog 63 #[.slice A n c] W λe w'=>e = .returned (wV bs)/\Below W.heap.size W w':=by
 by_cases h0:eF bs=0
 ·by_cases h6:aJ bs 9=6
  ·by_cases h1:eO (four bs 12) (four bs 16) (body bs)=0
   ·exact BH A n c bs B W hb hB hc hm he h0 h6 h1
   ·exact zb A n c bs B W hb hB hc hm he h0 h6 h1
  ·by_cases vK:aJ bs 9=17
   ·by_cases h1:fP (four bs 12) (four bs 16) (body bs)=0
    ·exact BI A n c bs B W hb hB hc hm he h0 vK h1
    ·exact aaM A n c bs B W hb hB hc hm he h0 vK h1
   ·by_cases h2:aJ bs 9=1
    ·by_cases h1:fW (body bs)=0
     ·exact ze A n c bs B W hb hB hc hm he h0 h2 h1
     ·exact v_ A n c bs B W hb hB hc hm he h0 h2 h1
    ·exact BJ A n c bs B W hb hB hc hm he h0 h6 vK h2
 ·exact BG A n c bs B W hb hB hc hm h0
end Wi
end Go.Proofs.YtbhnbcadgmagpaaGreatDoor
namespace Go.Proofs.YtbhnbcadgmagpaaGreatDoor
open Go.aN
namespace Pg
open aE (R)
open ak (Ke)
open iw (K)
open ov (four bS)
open oc (gw GG GH yW Bt)
def rz(t op:Int):Rn:={ r0 t op with at_:=.done }
def qx(r:Rn)(x:Int):Rn:={ r with e:=x,at_:=.endOp }
def zT(p:K):Bool:=cB.nZ p.ds p.dp p.sr p.sp
def cv(p:K):Ke:=if zT p then⟨p.ds,p.sr,p.dp,p.sp,p.pr⟩else⟨p.sr,p.ds,p.sp,p.dp,p.pr⟩
theorem tG{p:K}(h:p.Ok):(cv p).Ok:=by
 have:=h.pr;have:=h.sr;have:=h.ds;have:=h.sp;have:=h.dp
 unfold cv;split <;> exact⟨by assumption,by assumption,by assumption,by assumption,by assumption⟩
def Fi(bs:List UInt8):K:=⟨aJ bs 9,four bs 12,four bs 16,GG bs,GH bs,yW bs,Bt bs⟩
theorem DT(bs:List UInt8):(Fi bs).Ok:=⟨dB bs 9,bS bs 12,bS bs 16,oc.QO bs,oc.QR bs,by have:=oc.QS bs;show yW bs<256;omega,oc.QT bs⟩
def xR(C:Cf)(r:Rn)(bs:List UInt8):Rn :=
 if gw bs=0 then { r with p:=Fi bs,k:=cv (Fi bs),dn:=zT (Fi bs),st:=Tb.gZ C.n (cv (Fi bs)),q:=1,mu:=((Tb.gZ C.n (cv (Fi bs)):Nat):Int),at_:=.find }
 else { r with e:=(gw bs:Int),at_:=.malformed }
def Hh(C:Cf)(r:Rn)(l:List UInt8):Rn:=if (aE.aL l).2.2=0 then { r with li:=(aE.aL l).1,mu:=(C.n:Int),at_:=.claim }else qx r ((aE.aL l).2.2:Int)
def vp(r:Rn)(fl:Bool):Rn:={ r with q:=if fl then 4 else 6,mu:=(r.st:Int),at_:=.take }
def xS(r:Rn)(n:Int):Rn:=if 1<=n/\n<=5 then { r with z:=n,at_:=.stat }else qx r 1
def sZ(C:Cf)(t op kd n:Int)(bs l:List UInt8):Rn :=
 if kd=1 then xR C (rz t op) bs else if kd=2 then { rz t op with z:=n,at_:=.readClock }else if kd=3 then Hh C (rz t op) l
 else if kd=4 then vp (rz t op) true else if kd=6 then vp (rz t op) false else if kd=5 then xS (rz t op) n else qx (rz t op) 1
end Pg
end Go.Proofs.YtbhnbcadgmagpaaGreatDoor
