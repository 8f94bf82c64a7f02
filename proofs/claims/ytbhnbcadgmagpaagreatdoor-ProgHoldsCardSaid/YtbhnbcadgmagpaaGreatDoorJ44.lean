import Derived.Test.YtbhnbcadgmagpaaGreatDoorBii
import Derived.Test.YtbhnbcadgmagpaaGreatDoorJ1
import Derived.Test.YtbhnbcadgmagpaaGreatDoorJ43
import Derived.Test.YtbhnbcadgmagpaaGreatDoorJ41
set_option linter.unusedVariables false
set_option linter.unusedSimpArgs false
set_option maxRecDepth 100000
set_option maxHeartbeats 4000000
namespace Go.Proofs.YtbhnbcadgmagpaaGreatDoor
open Go.ChangeShapes Go.WideShapes Go.ChangeAt Go.RowKit Go.aN Go.Lib
namespace Pg
open bg (Ms af bq ay aP ag L4 aH aq ai bD)
open aE (R)
open ak (Ke)
open Me (ptr)
open Tb (UW TM Fw)
section
variable {b:Bs}{W:World}{Om Ot K X:Nat->Prop}{pv:Value}{S:Sh}{gs:List Nat}{rs:List Rn}
theorem abA(H:SR b Om Ot K pv S W)(hl:S.fs.length<=100000):Calls Tryz.prog 15 #[ptr b.B] W λe w'=>∃p c,e = .returned (.slice p S.fs.length c)/\Tb.Um w' W.heap.size p (S.fs.map (·.k))/\Below W.heap.size W w':=by
 have HL:=hid (Tb.abI (w:=els b.w0 W Om Ot) ⟨H.mem,H.dr,H.az,H.nm,H.nt,H.tC,λj o h=>h.1,λj o h=>h.2,Nat.le_refl _⟩ hl);have y0:=H.blk.cell 19 (ptr b.tb) rfl;clear H hl;go_in;go_wp2_with fail;refine HL.out.mono ?_;rintro e w1 ⟨p,c,rfl,h1,h2⟩;have HV:Hid (Tb.Um w1 W.heap.size p (S.fs.map (·.k))/\Below W.heap.size W w1):=⟨h1,h2⟩;clear h1 h2 y0 HL;go_wp2_with fail;go_ret;exact⟨p,c,rfl,HV.out⟩
theorem Lw.keys(H:Lw b S gs rs X W)(hl:S.fs.length<=100000):Calls Tryz.prog 15 #[ptr b.B] W λe w'=>∃p c,e = .returned (.slice p S.fs.length c)/\Tb.Um w' W.heap.size p (S.fs.map (·.k))/\Below W.heap.size W w':=by
 obtain⟨Om,Ot,K,pv,h1,h2,h3⟩:=H.ex;exact abA h1 hl
end
theorem aaA(z N:Int)(T:Nat->Int)(A:Option Addr)(n c:Nat)(rl:List R)(A2:Option Addr)(n2 c2:Nat)(xs:List Ov)(A3:Option Addr)(n3 c3:Nat)(ps:List UInt8)(w:World)(he:wB w)(hc:(-9223372036854775808<=z/\z<=9223372036854775807)/\(-9223372036854775808<=N/\N<=9223372036854775807)/\∀i,-9223372036854775808<=T i/\T i<=9223372036854775807)(hr:gK w w.heap.size (.slice A n c) rl/\∀r∈rl,r.Ok)(hx:xs.length=n2/\Qb w w.heap.size (.slice A2 n2 c2) xs/\∀x∈xs,x.Ok)(hp:bI w w.heap.size A3 n3 ps)(hp1:n3<=c3)(hp2:c3<=maxLen):Calls Tryz.prog 3 #[.agg (Au.iT z N T),.slice A n c,.slice A2 n2 c2,.slice A3 n3 c3] w λe w'=>e = .returned (.bool true)/\Below w.heap.size w w':=by
 have HX:=hid (aF.box w (Au.iT z N T) 24);have HB:=hid (ae w (.cells (Au.iT z N T) 24));have HE:=hid he;have HC:=hid hc;have HR:=hid hr;have XB:=hid hx;have HP:Hid (bI w w.heap.size A3 n3 ps/\n3<=c3/\c3<=maxLen):=⟨hp,hp1,hp2⟩;obtain⟨hn,hnc,hcm,-,-⟩:=qy hr.1;have Za:=hid (Er z N T);clear he hc hr hx hp hp1 hp2;go_in;go_wp2_with (refine wpList_load_row rfl 24 (.tmp 4) rfl w.heap.size rfl _ (Au.iT z N T) _ _ HX.out Tryz.underlying24 rfl pe ?_);refine(Za.out _).mono ?_;rintro e w1 ⟨rfl,hb⟩;have dF:=hid (HB.out.trans (hb.mono HB.out.size));have CA:=hid (HX.out.next hb);clear hb HX HB Za;go_wp2_with fail;refine(Pp A n c hnc hcm _).mono ?_;rintro e w2 ⟨rfl,hb⟩;have dG:=hid (dF.out.trans (hb.mono dF.out.size));have p_:=hid (CA.out.next hb);clear hb dF CA;go_wp2_with fail;have XC:=hid (Pr (HE.out.below dG.out) (zL z) N T (by have:=HC.out.1;unfold zL;split <;> omega) HC.out.2.2 A (min n 70) c (rl.take (min n 70)) (qy HR.out.1).2.2.2.2 ((qy HR.out.1).2.2.2.1.below dG.out) (λr hr=>HR.out.2 r (List.mem_of_mem_take hr)));refine(XC.out).mono ?_;rintro e w3 (⟨x,hx0,rfl,hb⟩ | ⟨B,mb,tb,rm,zn,rfl,Zb,Cq⟩)
 ·have hx1:(x != 0)=true:=by rw[bne,hx0];rfl
  have fF:=hid (dG.out.trans (hb.mono dG.out.size));clear hb dG XC;go_wp2_with fail;refine(nV _ (HE.out.below fF.out)).mono ?_;rintro e w4 ⟨rfl,hb⟩;have rL:=hid (fF.out.trans (hb.mono fF.out.size));clear hb;go_wp2_with fail;go_ret;exact⟨rfl,rL.out⟩
 have XD:=hid Zb;have U_:=hid Cq;clear Zb Cq XC;obtain⟨bb,hbb⟩:∃x,x=bs w2 ⟨zn,N,T⟩ B mb tb rm:=⟨_,rfl⟩
 have CE:Hid (bb.B=B/\bb.C=⟨zn,N,T⟩/\bb.w0=w2):=by show _/\_;rw[hbb];exact⟨rfl,rfl,rfl⟩
 rw[← hbb]at U_;clear hbb
 have SI:Hid (wB bb.w0):=by show wB _;rw[CE.out.2.2];exact HE.out.below dG.out
 have R4:Hid (Iw bb.C):=by show Iw _;rw[CE.out.2.1];exact XD.out
 obtain⟨s0,hs0⟩:∃x,oC zn (rl.take (min n 70))=x:=⟨_,rfl⟩
 have HWI:Hid (WI bb.C s0 []):=by show WI _ _ _;rw[CE.out.2.1,← hs0];exact R9 XD.out _
 have M7:Hid (Rm 100000 s0):=hs0▸R_ _ _
 have HXC:Hid (aF bb.w0 w.heap.size (Au.iT z N T) 24):=by show aF _ _ _ _;rw[CE.out.2.2];exact p_.out
 have tq:Hid (Below w.heap.size w bb.w0):=by show Below _ _ _;rw[CE.out.2.2];exact dG.out
 rw[hs0]at U_;have HPB:Hid (cB.bN (bb.C.n:Int)=true):=U_.out.ok.2.2;obtain⟨hxl,Zc,hxk⟩:=XB.out
 have hxc:n2<=c2/\c2<=9223372036854775807:=by
  obtain⟨A',c',e,h1,h2,_⟩:=Zc;injection e with _ _ e;subst e;exact⟨by omega,h2⟩
 obtain⟨aak,aal⟩:=hxc;have Zd:=hid hxl;clear hs0 hn hnc hcm hxl Zc hxk dG XD;rw[show B=bb.B from CE.out.1.symm];go_wp2_with fail;go_loopw [11,12] (λl vi wr=>∃(gs:List Nat) (rs:List Rn) (Ar:Option Addr) (cr:Nat),l = .slice Ar gs.length cr/\vi = .int .i64 (gs.length:Int)/\gs.length<=n2/\gs.length<=20/\Hid (Lp bb s0 gs rs Ar cr wr/\∀r∈rs,En r)) (λ_ vi _=>20 - (RowKit.intOf vi).toNat)
 case atStart=>exact⟨[],[],_,0,rfl,rfl,Nat.zero_le _,Nat.zero_le _,(show Hid _ from⟨Lp.none U_.out HWI.out,λr hr=>absurd hr List.not_mem_nil⟩)⟩
 case round =>
  obtain⟨gs,rs,Ar,cr,rfl,rfl,hk,XE,HL⟩:=hrel;have hcap:=HL.out.1.cap;obtain⟨Ze,hcap2⟩:=hcap
  obtain⟨hlt,E5⟩ | hout:(gs.length<n2/\gs.length<20)\/(¬gs.length<n2\/gs.length<n2/\¬gs.length<20):=zo
  ·obtain⟨x,hx⟩:∃x,xs[gs.length]? = some x:=⟨_,List.getElem?_eq_getElem (by have:=Zd.out;omega)⟩;have hmem:=List.mem_of_getElem? hx;have Zf:=hid (XB.out.2.2 x hmem)
   obtain⟨bo,off,rfl,hbo,hcells,Zg⟩:∃bo off,A2=some ⟨bo,off,none⟩/\bo<w.heap.size/\(∀(j:Nat) (u:Value),(M_ x)[j]? = some u->w.cell? ⟨bo,off+(gs.length*4+j),none⟩=some u)/\bI w w.heap.size x.A x.l x.bs:=by
    obtain⟨A',c',e,h1,h2,h3,h4⟩:=XB.out.2.1;injection e with e _ _;subst e;obtain⟨bo,off,e1,e2,e3⟩:=h3 (by have:=Zd.out;omega);exact⟨bo,off,e1,e2,λj u hu=>e3 _ x hx j u hu,h4 x hmem⟩
   have UA:=hid Zg;have Uq:∀j u,(M_ x)[j]? = some u->wr.cell? ⟨bo,off+(gs.length*4+j),none⟩=some u:=λj u hu=>(HL.out.1.lw.az.cell (p:=⟨bo,off+(gs.length*4+j),none⟩) (by have:=tq.out.size;show bo<_;omega)).trans ((tq.out.cell (p:=⟨bo,off+(gs.length*4+j),none⟩) hbo).trans (hcells j u hu));have q0:wr.cell? ⟨bo,off+gs.length*4,none⟩=some (.int .i64 x.kd):=Uq 0 _ rfl;have q1:wr.cell? ⟨bo,off+gs.length*4+1,none⟩=some (.int .i64 x.n):=Uq 1 _ rfl;have q2:wr.cell? ⟨bo,off+gs.length*4+2,none⟩=some (.slice x.A x.l x.c):=Uq 2 _ rfl;have q3:wr.cell? ⟨bo,off+gs.length*4+3,none⟩=some (.string x.s):=Uq 3 _ rfl;clear hcells Uq Zg hmem hx;have Zh:=hid (Im x Zf.out);go_wp2_with fail;refine(Zh.out _).mono ?_;rintro e w5 ⟨rfl,hb⟩;have Ps:Hid (Lp bb s0 gs rs Ar cr w5/\∀r∈rs,En r):=⟨HL.out.1.next hb,HL.out.2⟩;unfold M_ I7;clear hb q0 q1 q2 q3 HL Zh;have UR:Hid (bI w5 w5.heap.size (bX x).A (bX x).l (bX x).bs):=((((D9 UA.out).below tq.out).more tq.out.size).below Ps.out.1.lw.az).more Ps.out.1.lw.size;have U':=hid (Il Zf.out);go_wp2_with fail;refine(Ps.out.1.lw.iL (gs.length:Int) 0 zo (bX x).n (bX x).A (bX x).l (bX x).c (bX x).s (bX x).kd SI.out.eb (bX x).bs UR.out U'.out.l U'.out.c U'.out.s).mono ?_;rintro e w6 ⟨g,rfl,hl,ho⟩;have Zi:=hid hl;have Ht:Hid (w6.ownsRow 0 36 1 (.slice Ar gs.length cr) gs.length (gs.map ptr)):=bf Ps.out.1.row λg e=>ho.block g (Ps.out.1.lw.xx g e).2 λh=>h.2 e;have Dw:Hid (WI bb.C s0 rs/\(∀r∈rs,En r)/\rs.length=gs.length):=⟨Ps.out.1.wi,Ps.out.2,Ps.out.1.lw.ln.symm⟩;clear hl ho UR Ps;go_wp2_with (at_builtin;refine jP (gs.length+1) rfl (.tmp 38) (.tmp 47) 35 36 rfl Tryz.underlying35 (.pointer none) 1 8 MM rfl zo zo _ gs.length (gs.map ptr) rfl Ht.out [ptr g] rfl (λu hu=>by rw[List.mem_singleton.1 hu];rfl) rfl rfl zo ?_;intro A' c' w7 hown zS hfr);have iI:=RJ R4.out HPB.out s0 (gs.length:Int) 0 (bX x).kd (bX x).n (bX x).bs (bX x).s.data.toList ⟨by omega,by omega⟩ U'.out.n
   have HL7:Hid (Lp bb s0 (gs++[g]) (rs++[sZ bb.C (gs.length:Int) 0 (bX x).kd (bX x).n (bX x).bs (bX x).s.data.toList]) A' c' w7/\∀r∈rs++[sZ bb.C (gs.length:Int) 0 (bX x).kd (bX x).n (bX x).bs (bX x).s.data.toList],En r) :=
    ⟨Lp.push rfl Zi.out (Dw.out.1.add iI.1 (by rw[iI.2.1,Dw.out.2.2]) iI.2.2.1 iI.2.2.2) zS.out hfr.out hown.out,λr hr=>by
     rcases List.mem_append.1 hr with hr | hr
     ·exact Dw.out.2.1 r hr
     ·rw[List.mem_singleton.1 hr];exact R8 ..⟩
   clear iI hown zS hfr Zi Ht Dw;go_roundw
   case rel=>exact⟨gs++[g],_,A',c',by rw[List.length_append];rfl,by rw[List.length_append];go_num,by rw[List.length_append];simp;omega,by rw[List.length_append];simp;omega,HL7⟩
   case measure=>simp[RowKit.intOf];omega
  ·rcases hout with hlt | ⟨hlt,E5⟩
   all_goals (
    have HGL:Hid (gs.length<=20):=XE
    go_wp2_with fail
    go_loopw [13] (λvi wr=>∃(k:Nat) (S:Sh) (Qn:List Rn),vi = .int .i64 (k:Int)/\k<=n3/\k<=600/\Hid (Lp bb S gs Qn Ar cr wr/\(∀r∈Qn,En r)/\Rm (12*(600 - k)+1000) S)) (λvi _=>600 - (RowKit.intOf vi).toNat)
    case atStart=>exact⟨0,s0,rs,rfl,Nat.zero_le _,Nat.zero_le _,(show Hid _ from⟨HL.out.1,HL.out.2,M7.out.mono zo⟩)⟩
    case round =>
     obtain⟨k,S,Qn,rfl,SZ,hk6,HS⟩:=hrel
     by_cases h3:k<n3
     ·by_cases h6:k<600
      ·by_cases h0:0<gs.length
       ·obtain⟨bp,op,rfl,cz,hpc⟩:=HP.out.1.at_ zo
        have hpl:=HP.out.2
        have aam:c3<=9223372036854775807:=hpl.2
        have p0:wr.cell? ⟨bp,op+k,none⟩=some (.int .u8 (aJ ps k:Int)):=(HS.out.1.lw.az.cell (p:=⟨bp,op+k,none⟩) (by have:=tq.out.size;show bp<_;omega)).trans ((tq.out.cell (p:=⟨bp,op+k,none⟩) cz).trans (hpc k h3))
        obtain⟨j,hj⟩:∃j,aJ ps k % gs.length=j:=⟨_,rfl⟩
        have hjl:j<gs.length:=by rw[← hj];exact Nat.mod_lt _ h0
        have Zj:Hid (∀W,Calls Tryz.prog 13 #[.int .u8 (aJ ps k:Int),.int .i64 (gs.length:Int)] W λe w'=>e = .returned (.int .i64 (j:Int))/\Below W.heap.size W w'):=λW=>hj▸MK (aJ ps k) gs.length (dB ps k) h0 HGL.out W
        obtain⟨g,hg⟩:∃g,gs[j]? = some g:=⟨_,List.getElem?_eq_getElem hjl⟩
        obtain⟨r,hr⟩:=HS.out.1.lw.run hg
        have HG:=hid hg
        have Ur:=hid hr
        obtain⟨bx,rfl,-,-,hcx⟩:=HS.out.1.at_ hg
        clear hpc hj hg hr hpl
        go_wp2_with fail
        go_at_call 13
        refine(Zj.out _).mono ?_
        rintro e w5 ⟨rfl,hb⟩
        have MO:Hid (Lp bb S gs Qn (some ⟨bx,0,none⟩) cr w5/\(∀r∈Qn,En r)/\Rm (12*(600 - k)+1000) S):=⟨HS.out.1.next hb,HS.out.2⟩
        have hcy:w5.cell? ⟨bx,j,none⟩=some (ptr g):=by
         obtain⟨x,e,-,-,h⟩:=MO.out.1.at_ HG.out
         injection e with e
         injection e with e _ _
         subst e
         exact h
        clear hb p0 Zj hcx HS
        go_wp2_with fail
        have Re:=MO.out.1.wi.ri j r Ur.out
        have Kw:=hid (MO.out.1.lw.stepOf HG.out Ur.out (Up SI.out.eb.pg r.at_) (MO.out.2.2.mono zo) (Re.fit R4.out) SI.out.eb.pg)
        clear Re
        go_at_call 14
        refine Kw.out.mono ?_
        rintro e w6 ⟨rfl,hl,ho⟩
        have Us:Hid (Lp bb (Lf bb.C S r).1 gs (Qn.set j (Lf bb.C S r).2) (some ⟨bx,0,none⟩) cr w6/\(∀x∈Qn.set j (Lf bb.C S r).2,En x)/\Rm (12*(600 - (k+1))+1000) (Lf bb.C S r).1) :=
         ⟨MO.out.1.put hl (MO.out.1.wi.step Ur.out (by have:=MO.out.2.2.w;omega)) ho,λx hx=>by
          rcases List.mem_or_eq_of_mem_set hx with hx | rfl
          ·exact MO.out.2.1 x hx
          ·exact Pq (MO.out.2.1 r (List.mem_of_getElem? Ur.out)),Rm.step (n:=12*(600 - (k+1))+1000) (MO.out.2.2.mono zo)⟩
        clear hl ho Kw MO hcy Ur HG
        generalize (Lf bb.C S r).1=S2 at *
        generalize Qn.set j (Lf bb.C S r).2=rs3 at *
        go_wp2_with fail
        have Tz:=Us.out.1.wi.holds
        have hfl:=Us.out.2.2.f
        obtain⟨kg,hkg⟩:∃x,kG (bg.af S2.ms 0)=x:=⟨_,rfl⟩
        have HGT:=hid (λ(W:World) (h:Lp bb S2 gs rs3 (some ⟨bx,0,none⟩) cr W)=>h.lw.gate SI.out.eb.pg)
        rw[hkg]at HGT Tz
        obtain⟨nf,XX⟩:∃x,S2.fs.length=x:=⟨_,rfl⟩
        have HKS:=hid (Us.out.1.lw.keys zo)
        rw[XX]at HKS Tz
        have d1:decide ((nf:Int)>kg)=false:=zt
        have d2:decide (kg>N)=false:=by
         have:bb.C.N=N:=by rw[CE.out.2.1]
         simp;omega
        clear Tz hfl hkg XX
        go_at_call 15
        refine HKS.out.mono ?_
        rintro e w7 ⟨pk,ck,rfl,-,hb⟩
        have HS7:Hid (Lp bb S2 gs rs3 (some ⟨bx,0,none⟩) cr w7/\(∀x∈rs3,En x)/\Rm (12*(600 - (k+1))+1000) S2):=⟨Us.out.1.next hb,Us.out.2⟩
        clear hb HKS Us
        go_wp2_with fail
        go_at_call 16
        refine(HGT.out _ HS7.out.1).mono ?_
        rintro e w8 ⟨rfl,hb⟩
        obtain⟨gv,hgv⟩:∃x,vG (bg.af S2.ms 0)=x:=⟨_,rfl⟩
        obtain⟨gc,hgc⟩:∃x,cG (bg.af S2.ms 0)=x:=⟨_,rfl⟩
        rw[hgv,hgc]
        have HS8:Hid (Lp bb S2 gs rs3 (some ⟨bx,0,none⟩) cr (w8.alloc (.cells #[.int .i64 gv,.int .i64 kg,.int .i64 gc] 45))/\(∀x∈rs3,En x)/\Rm (12*(600 - (k+1))+1000) S2):=⟨(HS7.out.1.next hb).next (ae _ _),HS7.out.2⟩
        have zc:(w8.alloc (.cells #[.int .i64 gv,.int .i64 kg,.int .i64 gc] 45)).cell? ⟨w.heap.size,1,none⟩=some (.int .i64 N) :=
         (HS8.out.1.lw.az.cell (p:=⟨w.heap.size,1,none⟩) (HXC.out.lt)).trans (HXC.out.cell 1 _ rfl)
        clear hb hgv hgc HS7 HGT
        go_wp2_with fail
        go_roundw
        case rel=>exact⟨k+1,S2,rs3,by go_num,by omega,by omega,HS8⟩
        case measure=>simp[RowKit.intOf];omega
       ·first
        | (exfalso;omega)
        | (
         go_wp2_with fail
         go_at_call 10
         refine(nV _ (SI.out.below HS.out.1.lw.az)).mono ?_
         rintro e w9 ⟨rfl,hb⟩
         have HF:Hid (Below w.heap.size w w9):=tq.out.trans ((HS.out.1.lw.az.trans (hb.mono HS.out.1.lw.size)).mono tq.out.size)
         clear hb
         go_wp2_with fail
         go_ret
         exact⟨rfl,HF.out⟩)
      ·go_wp2_with fail
       go_at_call 10
       refine(nV _ (SI.out.below HS.out.1.lw.az)).mono ?_
       rintro e w9 ⟨rfl,hb⟩
       have HF:Hid (Below w.heap.size w w9):=tq.out.trans ((HS.out.1.lw.az.trans (hb.mono HS.out.1.lw.size)).mono tq.out.size)
       clear hb
       go_wp2_with fail
       go_ret
       exact⟨rfl,HF.out⟩
     ·go_wp2_with fail
      go_at_call 10
      refine(nV _ (SI.out.below HS.out.1.lw.az)).mono ?_
      rintro e w9 ⟨rfl,hb⟩
      have HF:Hid (Below w.heap.size w w9):=tq.out.trans ((HS.out.1.lw.az.trans (hb.mono HS.out.1.lw.size)).mono tq.out.size)
      clear hb
      go_wp2_with fail
      go_ret
      exact⟨rfl,HF.out⟩)
end Pg
end Go.Proofs.YtbhnbcadgmagpaaGreatDoor
