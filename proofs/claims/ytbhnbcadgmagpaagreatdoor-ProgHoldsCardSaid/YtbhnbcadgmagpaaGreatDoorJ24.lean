import Derived.Test.YtbhnbcadgmagpaaGreatDoorBig
import Derived.Test.YtbhnbcadgmagpaaGreatDoorJ1
import Derived.Test.YtbhnbcadgmagpaaGreatDoorJ20
set_option linter.unusedVariables false
set_option linter.unusedSimpArgs false
set_option maxRecDepth 100000
set_option maxHeartbeats 2000000
namespace Go.Proofs.YtbhnbcadgmagpaaGreatDoor
open Go.Lib (hid)
open Go.ChangeShapes Go.WideShapes Go.ChangeAt Go.RowKit Go.aN
namespace Ip
open ov (word four hs tl aU bS fD eF body K0 mL)
open iC (add cV)
theorem Lc(x:Nat)(h:x<65536):bits .and .u64 (x:Int) 16383=((x % 16384:Nat):Int):=by
 have:=u64_and (x:Int) 16383 zo zo zo zo;rw[this];have:x &&& 16383=x % 16384:=Nat.and_two_pow_sub_one_eq_mod x 14;simp only[Int.toNat_natCast];rw[show(16383:Int).toNat=16383 from rfl,this]
theorem cL(A:Option Addr)(n c:Nat)(bs:List UInt8)(B:Nat)(W:World)(hb:bI W B A n bs)(hB:B<=W.heap.size)(hc:n<=c)(hm:c<=9223372036854775807)(E5:20<=n) :
  Calls Tryz.prog 135 #[.agg (aT (aJ bs 9) (four bs 12) (four bs 16) (hs bs) (tl bs) (aJ bs 8) (word bs 4)),.slice A n c] W λe w'=>e = .returned (.int .i64 (fD bs:Int))/\Below W.heap.size W w':=by
 obtain⟨b,off,rfl,hlt,-⟩:=hb.at_ zo
 have hl:=hb.len
 have HB:=hid (hb.alloc hB (.cells (aT (aJ bs 9) (four bs 12) (four bs 16) (hs bs) (tl bs) (aJ bs 8) (word bs 4)) 156))
 obtain⟨b',off',e',-,hcell⟩:=HB.out.at_ zo
 obtain⟨rfl,rfl⟩:b=b'/\off=off':=by injection e' with e';injection e' with e1 e2;exact⟨e1,e2⟩
 have c0:=hcell 0 zo
 rw[Nat.add_zero]at c0
 have az:=(Below.refl _ W).alloc zl (.cells (aT (aJ bs 9) (four bs 12) (four bs 16) (hs bs) (tl bs) (aJ bs 8) (word bs 4)) 156)
 have HZ:=hid (Hd.box W (aJ bs 9) (four bs 12) (four bs 16) (hs bs) (tl bs) (aJ bs 8) (word bs 4))
 obtain⟨z0,z1,z2,z3,z4,z5,z6⟩:=HZ.out.cells
 have i0:0<n:=zo
 have y0:=dB bs 0
 have VH:=K0 bs
 have htl:=mL bs
 have HL:=hid hl
 clear hb hl e' hcell
 by_cases h1:aJ bs 0 / 16=4
 ·have d1:((aJ bs 0:Int) / 16 != 4)=false:=zt;by_cases h2:hs bs<20
  ·have HF:Hid (fD bs=6):=by show _=_;unfold fD;rw[if_neg zo,if_pos h2]
   clear h1;go_in;go_wp2_with fail;go_ret;exact⟨ax (by rw[HF.out];rfl),az⟩
  ·by_cases h3:n<hs bs
   ·have HF:Hid (fD bs=4):=by show _=_;unfold fD;rw[if_neg zo,if_neg zo,if_pos (by have:=HL.out;omega)]
    clear h1;go_in;go_wp2_with fail;go_ret;exact⟨ax (by rw[HF.out];rfl),az⟩
   ·by_cases h4:tl bs<hs bs
    ·have HF:Hid (fD bs=4):=by show _=_;unfold fD;rw[if_neg zo,if_neg zo,if_pos (by have:=HL.out;omega)]
     clear h1;go_in;go_wp2_with fail;go_ret;exact⟨ax (by rw[HF.out];rfl),az⟩
    ·by_cases h5:n<tl bs
     ·have HF:Hid (fD bs=4):=by show _=_;unfold fD;rw[if_neg zo,if_neg zo,if_pos (by have:=HL.out;omega)]
      clear h1;go_in;go_wp2_with fail;go_ret;exact⟨ax (by rw[HF.out];rfl),az⟩
     ·have HA:=hid (λW' (hb:bI W' B (some ⟨b,off,none⟩) n bs)=>Sm.qp 0 (some ⟨b,off,none⟩) (hs bs) c (bs.take (hs bs)) W' B (hb.front (hs bs) zo) zo zo hm);have hal:=cV 0 (bs.take (hs bs));have HN:=hid (λW' (hb:bI W' B (some ⟨b,off,none⟩) n bs)=>cW (some ⟨b,off,none⟩) n c bs B 6 2 _ W' hb hc hm zo zo zo (mM bs 6 (by have:=HL.out;omega)));have HW:=hid (Lc (word bs 6) (aU bs 6))
      have HE:Hid (fD bs=if add 0 (bs.take (hs bs))≠65535 then 7 else if word bs 6 % 16384≠0 then 8 else 0):=by
       show _=_;unfold fD;rw[if_neg zo,if_neg zo,if_neg (by have:=HL.out;omega)]
      generalize add 0 (bs.take (hs bs))=r at HA hal HE;clear h1;go_in;go_wp2_with fail;refine(HA.out _ HB.out).mono ?_;rintro e w' ⟨rfl,rfl⟩;by_cases h6:r=65535
      ·have d6:((r:Int)!=65535)=false:=zt;by_cases h7:word bs 6 % 16384=0
       ·have d7:(((word bs 6 % 16384:Nat):Int)!=0)=false:=zt
        have HF:Hid (fD bs=0):=by show _=_;rw[HE.out,if_neg zo,if_neg zo]
        clear h6 h7;go_wp2_with fail;refine(HN.out _ HB.out).mono ?_;rintro e w' ⟨rfl,rfl⟩;have hw:=HW.out;go_wp2_with fail;go_ret;exact⟨ax (by rw[HF.out];rfl),az⟩
       ·have d7:(((word bs 6 % 16384:Nat):Int)!=0)=true:=zt
        have HF:Hid (fD bs=8):=by show _=_;rw[HE.out,if_neg zo,if_pos zo]
        clear h6 h7;go_wp2_with fail;refine(HN.out _ HB.out).mono ?_;rintro e w' ⟨rfl,rfl⟩;have hw:=HW.out;go_wp2_with fail;go_ret;exact⟨ax (by rw[HF.out];rfl),az⟩
      ·have d6:((r:Int)!=65535)=true:=zt
       have HF:Hid (fD bs=7):=by show _=_;rw[HE.out,if_pos zo]
       clear h6;go_wp2_with fail;go_ret;exact⟨ax (by rw[HF.out];rfl),az⟩
 ·have d1:((aJ bs 0:Int) / 16 != 4)=true:=zt
  have HF:Hid (fD bs=5):=by show _=_;unfold fD;rw[if_pos h1]
  clear h1;go_in;go_wp2_with fail;go_ret;exact⟨ax (by rw[HF.out];rfl),az⟩
abbrev zeroV:Value:=.agg (aT 0 0 0 0 0 0 0)
abbrev gU(e:Nat):Value:=.tuple #[zeroV,.slice none 0 0,.int .i64 (e:Int)]
theorem Dv(A:Option Addr)(n c:Nat)(bs:List UInt8)(B:Nat)(W:World)(hb:bI W B A n bs)(hc:n<=c)(hm:c<=9223372036854775807)(h:1500<n) :
  Calls Tryz.prog 95 #[.slice A n c] W λe w'=>e = .returned (gU 2)/\Below W.heap.size W w':=by
 have HZ:=hid (Hd.box W 0 0 0 0 0 0 0)
 obtain⟨f0,f1,f2,f3,f4,f5,f6⟩:=HZ.out.frozen
 obtain⟨z0,z1,z2,z3,z4,z5,z6⟩:=HZ.out.cells
 have az:=(Below.refl _ W).alloc zl (.cells (aT 0 0 0 0 0 0 0) 156)
 clear hb
 go_in
 go_wp2_with fail
 exact bodyPost_ret (v:=gU 2) (by simp[results,Tryz.results95,go_sem,gU,zeroV,z0,z1,z2,z3,z4,z5,z6]) rfl ⟨rfl,az⟩
theorem mO(A:Option Addr)(n c:Nat)(bs:List UInt8)(B:Nat)(W:World)(hb:bI W B A n bs)(hc:n<=c)(hm:c<=9223372036854775807)(h:n<20) :
  Calls Tryz.prog 95 #[.slice A n c] W λe w'=>e = .returned (gU 4)/\Below W.heap.size W w':=by
 have HZ:=hid (Hd.box W 0 0 0 0 0 0 0)
 obtain⟨f0,f1,f2,f3,f4,f5,f6⟩:=HZ.out.frozen
 obtain⟨z0,z1,z2,z3,z4,z5,z6⟩:=HZ.out.cells
 have az:=(Below.refl _ W).alloc zl (.cells (aT 0 0 0 0 0 0 0) 156)
 clear hb
 go_in
 go_wp2_with fail
 exact bodyPost_ret (v:=gU 4) (by simp[results,Tryz.results95,go_sem,gU,zeroV,z0,z1,z2,z3,z4,z5,z6]) rfl ⟨rfl,az⟩
theorem fB(A:Option Addr)(n c:Nat)(bs:List UInt8)(B:Nat)(W:World)(hb:bI W B A n bs)(hB:B<=W.heap.size)(hc:n<=c)(hm:c<=9223372036854775807)(E5:20<=n)(Ld:n<=1500)(he:fD bs≠0) :
  Calls Tryz.prog 95 #[.slice A n c] W λe w'=>e = .returned (gU (fD bs))/\Below W.heap.size W w':=by
 have HB:=hid (hb.alloc hB (.cells (aT 0 0 0 0 0 0 0) 156))
 have HZ:=hid (Hd.box W 0 0 0 0 0 0 0)
 have lJ:=hid ((Below.refl _ W).alloc zl (.cells (aT 0 0 0 0 0 0 0) 156))
 have HH:=hid (λW' hb hB=>Bx A n c bs B W' hb hB hc hm E5)
 have HC:=hid (λW' hb hB=>cL A n c bs B W' hb hB hc hm E5)
 have d:((fD bs:Int)!=0)=true:=zt
 clear hb he
 go_in
 go_wp2_with fail
 refine(HH.out _ HB.out zt).mono ?_
 rintro e w2 ⟨rfl,aZ⟩
 have cK:=hid (HZ.out.next aZ)
 have dG:=hid (HB.out.below (aZ.mono zt))
 have dz:=hid (lJ.out.trans (aZ.mono zs))
 have hs2:=aZ.size
 simp only[World.size_alloc]at hs2
 have HX:=hid (Hd.box w2 0 0 0 0 0 0 0)
 obtain⟨x0,x1,x2,x3,x4,x5,x6⟩:=HX.out.cells
 obtain⟨g0,g1,g2,g3,g4,g5,g6⟩:=HX.out.frozen
 clear aZ
 go_wp2_with fail
 have fF:=hid (dG.out.alloc zo (.cells (aT (aJ bs 9) (four bs 12) (four bs 16) (hs bs) (tl bs) (aJ bs 8) (word bs 4)) 156))
 refine(HC.out _ fF.out zt).mono ?_
 rintro e w3 ⟨rfl,eP⟩
 have QU:=dz.out.trans ((((Below.refl _ w2).alloc zl (.cells (aT (aJ bs 9) (four bs 12) (four bs 16) (hs bs) (tl bs) (aJ bs 8) (word bs 4)) 156)).trans (eP.mono zs)).mono zo)
 have eT:=hid ((cK.out.next ((Below.refl _ w2).alloc zl (.cells (aT (aJ bs 9) (four bs 12) (four bs 16) (hs bs) (tl bs) (aJ bs 8) (word bs 4)) 156))).next eP)
 clear eP x0 x1 x2 x3 x4 x5 x6 g0 g1 g2 g3 g4 g5 g6 hs2
 obtain⟨z0,z1,z2,z3,z4,z5,z6⟩:=eT.out.cells
 obtain⟨f0,f1,f2,f3,f4,f5,f6⟩:=eT.out.frozen
 go_wp2_with fail
 obtain⟨r0,r1,r2,r3,r4,r5,r6⟩:=(eT.out.store 0 0 0 0 0 0 0).cells
 exact bodyPost_ret (v:=gU (fD bs)) (by simp[results,Tryz.results95,go_sem,r0,r1,r2,r3,r4,r5,r6]) rfl ⟨rfl,lI QU zl _ _ _ _ _ _ _⟩
theorem Oc{w:World}{base g n:Nat}{bs:List UInt8}(h:w.ownsRow base 5 1 (.slice (some ⟨g,0,none⟩) n n) n (fE bs)):Row w g bs:=by
 rcases h.2 with⟨h',_⟩ | ⟨g',cap',cur,h',_,hg,_,_,hcs,PJ⟩
 ·simp at h'
 ·simp only[Value.slice.injEq,Option.some.injEq,Addr.mk.injEq,and_true,true_and]at h';obtain⟨rfl,rfl⟩:=h';rw[List.take_of_length_le (by simp[hcs])]at PJ;unfold Row;rw[← PJ];exact hg
theorem Le{w:World}{B n b off m:Nat}{bs:List UInt8}(hb:bI w B (some ⟨b,off,none⟩) n bs)(hm:tl bs - hs bs=m)(h:hs bs+m<=n)(sp:Option Addr)(hsp:0<tl bs - hs bs->sp=some ⟨b,off+hs bs,none⟩) :
  bI w B sp (tl bs - hs bs) (body bs):=by
 rcases Nat.eq_zero_or_pos m with h0 | h0
 ·rw[hm,h0]
  have:body bs=[]:=by unfold body;rw[hm,h0];simp
  rw[this];exact bI.empty _ _ _
 ·rw[hsp zo,hm];obtain⟨b',off',e,h1⟩:=hb.cut (hs bs) m h0 zo;injection e with e;injection e with e1 e2;subst e1;subst e2;unfold body;rw[hm];exact h1
def gP(W:World)(bs:List UInt8)(e:Ending)(w':World):Prop :=
 ∃A c,e = .returned (.tuple #[xI bs,.slice A (tl bs - hs bs) c,.int .i64 0])/\bI w' w'.heap.size A (tl bs - hs bs) (body bs)/\(tl bs - hs bs<=c/\c<=9223372036854775807)/\Below W.heap.size W w'/\∀p,A=some p->W.heap.size<=p.block
theorem xJ(A:Option Addr)(n c:Nat)(bs:List UInt8)(B:Nat)(W:World)(hb:bI W B A n bs)(hB:B<=W.heap.size)(hc:n<=c)(hm:c<=9223372036854775807)(E5:20<=n)(Ld:n<=1500)(he:fD bs=0) :
  Calls Tryz.prog 95 #[.slice A n c] W (gP W bs):=by
 obtain⟨i0,hi0,hz0,hz1,jc⟩:=info_parts dy
 obtain⟨b,off,rfl,hlt,-⟩:=hb.at_ zo
 obtain⟨q1,q2,q3,q4,q5,q6,q7⟩:=ov.rG he
 have Od:=hid (ov.K1 he)
 rw[hb.len]at q3 q5
 obtain⟨m,hmm⟩:∃m,tl bs=hs bs+m:=⟨tl bs - hs bs,by omega⟩
 have HM:Hid (tl bs - hs bs=m):=by show _=_;omega
 have em:(tl bs:Int) - (hs bs:Int)=(m:Int):=zo
 have m1:hs bs+m<=n:=zo
 have HB:=hid (hb.alloc hB (.cells (aT 0 0 0 0 0 0 0) 156))
 have HZ:=hid (Hd.box W 0 0 0 0 0 0 0)
 have lJ:=hid ((Below.refl _ W).alloc zl (.cells (aT 0 0 0 0 0 0 0) 156))
 have HH:=hid (λW' hb hB=>Bx (some ⟨b,off,none⟩) n c bs B W' hb hB hc hm E5)
 have HC:=hid (λW' hb hB=>cL (some ⟨b,off,none⟩) n c bs B W' hb hB hc hm E5)
 rw[he]at HC
 have VH:=K0 bs
 have htl:=mL bs
 clear hb he hmm q1 q6 q7
 go_in
 go_wp2_with fail
 refine(HH.out _ HB.out zt).mono ?_
 rintro e w2 ⟨rfl,aZ⟩
 have cK:=hid (HZ.out.next aZ)
 have dG:=hid (HB.out.below (aZ.mono zt))
 have dz:=hid (lJ.out.trans (aZ.mono zs))
 have hs2:=aZ.size
 simp only[World.size_alloc]at hs2
 have HX:=hid (Hd.box w2 0 0 0 0 0 0 0)
 obtain⟨x0,x1,x2,x3,x4,x5,x6⟩:=HX.out.cells
 obtain⟨g0,g1,g2,g3,g4,g5,g6⟩:=HX.out.frozen
 clear aZ
 go_wp2_with fail
 have fF:=hid (dG.out.alloc zo (.cells (aT (aJ bs 9) (four bs 12) (four bs 16) (hs bs) (tl bs) (aJ bs 8) (word bs 4)) 156))
 refine(HC.out _ fF.out zt).mono ?_
 rintro e w3 ⟨rfl,eP⟩
 have QU:=dz.out.trans ((((Below.refl _ w2).alloc zl (.cells (aT (aJ bs 9) (four bs 12) (four bs 16) (hs bs) (tl bs) (aJ bs 8) (word bs 4)) 156)).trans (eP.mono zs)).mono zo)
 have eT:=hid ((cK.out.next ((Below.refl _ w2).alloc zl (.cells (aT (aJ bs 9) (four bs 12) (four bs 16) (hs bs) (tl bs) (aJ bs 8) (word bs 4)) 156))).next eP)
 have X8:=hid ((Hd.box w2 (aJ bs 9) (four bs 12) (four bs 16) (hs bs) (tl bs) (aJ bs 8) (word bs 4)).next eP)
 have rL:=hid (fF.out.below (eP.mono zt))
 have hs3:=eP.size
 simp only[World.size_alloc]at hs3
 clear eP x0 x1 x2 x3 x4 x5 x6 g0 g1 g2 g3 g4 g5 g6
 obtain⟨y0,y1,y2,y3,y4,y5,y6⟩:=X8.out.cells
 have Vl:=hid (λ(w:World) (hb:bI w B (some ⟨b,off,none⟩) n bs)=>Le hb HM.out m1)
 have Tj:Hid ((body bs).length=m):=by show _=_;rw[Od.out];exact HM.out
 go_wp2_with (first
  | (
    at_make;refine wpList_make_full _ rfl (.tmp 29) (.tmp 29) _ rfl w3.heap.size 5 i0 _ 1 Tryz.underlying27 hi0 hz0 hz1 .i64 .i64 (m:Int) (m:Int) m rfl rfl rfl rfl (by rw[jc];omega) (by unfold maxLen;omega) zl ?_
    intro w4 hown zS
    rw[xb]at hown
    have hb4:=(Below.refl w3.heap.size w3).grown zS zl zs
    have VI:=hid (Oc hown)
    have X9:=hid (X8.out.next hb4)
    have jK:=hid (eT.out.next hb4)
    have Dw:=hid (rL.out.below (hb4.mono zo))
    have VJ:=QU.trans (hb4.mono zo)
    have hs4:=hb4.size
    clear hown zS hb4 y0 y1 y2 y3 y4 y5 y6
    obtain⟨y0,y1,y2,y3,y4,y5,y6⟩:=X9.out.cells)
  | (
    refine pU 38 ?_
    refine sW rfl (.tmp 31) (.tmp 37) _ _ rfl 5 Tryz.underlying27 zk (some ⟨w3.heap.size,0,none⟩) (if c=hs bs then some ⟨b,off,none⟩else some ⟨b,off+hs bs,none⟩) w3.heap.size 0 m m (tl bs - hs bs) (c - hs bs) B rfl rfl (List.replicate m 0) (body bs) 5 VI.out (Vl.out _ Dw.out _ (λh=>if_neg (by have:=HM.out;omega))) (by have:=HM.out;omega) (by have:=HM.out;rw[List.length_replicate];omega) zg ?_
    intro w5 X_ VK
    have UG:=hid X_
    clear y0 y1 y2 y3 y4 y5 y6 X_
    have ZF:=hid (X9.out.keep (VK.block _ zo zt))
    have Lg:=hid (jK.out.keep (VK.block _ zo zt))
    have VL:=VJ.grown VK zo (by intro k hk;injection hk with hk;omega)
    obtain⟨y0,y1,y2,y3,y4,y5,y6⟩:=ZF.out.cells
    obtain⟨z0,z1,z2,z3,z4,z5,z6⟩:=Lg.out.cells
    obtain⟨f0,f1,f2,f3,f4,f5,f6⟩:=Lg.out.frozen))
 all_goals
  have hrow:(uN w5 W.heap.size (aJ bs 9) (four bs 12) (four bs 16) (hs bs) (tl bs) (aJ bs 8) (word bs 4)).heap[w3.heap.size]? = some (.cells (fE (body bs)).toArray 5 (0,0)):=by
   rw[yX _ _ _ zo,UG.out,JD _ _ (by rw[List.length_replicate];exact Tj.out.symm)]
  have Ya:=ED _ _ _ _ _ hrow rfl
  rw[Tj.out]at Ya
  obtain⟨r0,r1,r2,r3,r4,r5,r6⟩:=(Lg.out.store (aJ bs 9) (four bs 12) (four bs 16) (hs bs) (tl bs) (aJ bs 8) (word bs 4)).cells
  exact bodyPost_ret (v:=.tuple #[xI bs,.slice (some ⟨w3.heap.size,0,none⟩) m m,.int .i64 0]) (by simp[results,Tryz.results95,go_sem,r0,r1,r2,r3,r4,r5,r6]) rfl
   ⟨some ⟨w3.heap.size,0,none⟩,m,by rw[HM.out],by rw[HM.out];exact Ya,by rw[HM.out];omega,lI VL zl _ _ _ _ _ _ _,λp hp=>by injection hp with hp;subst hp;simp;omega⟩
end Ip
end Go.Proofs.YtbhnbcadgmagpaaGreatDoor
