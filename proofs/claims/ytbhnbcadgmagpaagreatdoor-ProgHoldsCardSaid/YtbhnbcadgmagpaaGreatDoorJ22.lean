import Derived.Test.YtbhnbcadgmagpaaGreatDoorBig
import Derived.Test.YtbhnbcadgmagpaaGreatDoorJ21
import Derived.Test.YtbhnbcadgmagpaaGreatDoorJ1
import Derived.Test.YtbhnbcadgmagpaaGreatDoorJ20
import Derived.Test.YtbhnbcadgmagpaaGreatDoorJ3
import Derived.Test.YtbhnbcadgmagpaaGreatDoorRows
set_option linter.unusedVariables false
set_option linter.unusedSimpArgs false
set_option maxHeartbeats 2000000
set_option maxRecDepth 100000
namespace Go.Proofs.YtbhnbcadgmagpaaGreatDoor
open Go.aN
namespace oa
open iC (add tot norm lG lay cV)
open ov (word j7 jz aU)
def gO(f:Nat):Bool:=decide (f % 2+f / 2 % 2+f / 4 % 2<2)&&(f / 2 % 2==1||f / 4 % 2==1||f / 16 % 2==1)
theorem GC(f:Nat)(h:f<256):gO f=(f &&& 7==2||f &&& 7==4||f &&& 22==16):=by
 have:∀f:Fin 256,gO f.val=(f.val &&& 7==2||f.val &&& 7==4||f.val &&& 22==16):=by decide +kernel
 exact this ⟨f,h⟩
theorem K4(f:Nat)(h:f<256):gO f=gO (f % 64):=by
 have:∀f:Fin 256,gO f.val=gO (f.val % 64):=by decide +kernel
 exact this ⟨f,h⟩
def N'(pr sr ds v:Nat):List UInt8:=jz sr++jz ds++[0,UInt8.ofNat pr]++j7 v
def Dt(pr sr ds v:Nat):Nat:=add 0 (N' pr sr ds v)
theorem lH(pr sr ds v:Nat):Dt pr sr ds v<=65535:=cV _ _
def vX(sr ds:Nat)(bs:List UInt8):Nat:=add (Dt 6 sr ds bs.length) bs
theorem qm(sr ds:Nat)(bs:List UInt8):vX sr ds bs<=65535:=cV _ _
def eO(sr ds:Nat)(bs:List UInt8):Nat :=
 if bs.length<20 then 4 else if aJ bs 12 / 16<5 then 6 else if bs.length<aJ bs 12 / 16*4 then 4 else if vX sr ds bs≠65535 then 7 else if gO (aJ bs 13)=true then 0 else 11
theorem K5{sr ds:Nat}{bs:List UInt8}(h:eO sr ds bs=0):20<=bs.length:=by
 unfold eO at h;split at h
 ·cases h
 ·omega
end oa
namespace oa
open iC (add tot norm lG lay cV)
open ov (word j7 jz aU nT)
section
variable (K sr ds fr ZE fl:Nat)(x:List UInt8)
end
end oa
end Go.Proofs.YtbhnbcadgmagpaaGreatDoor
namespace Go.Proofs.YtbhnbcadgmagpaaGreatDoor
open Go.ChangeShapes Go.WideShapes Go.ChangeAt Go.RowKit Go.aN
namespace Tc
open oa (gO)
open Ip (ax)
theorem Tk:Tryz.prog.globalNamed "mantlet/tcp.consistent" = some 1:=zk
structure Env(w:World):Prop where
 c0:w.cell? ⟨1,0,none⟩=some (.int .u8 7)
 c1:w.cell? ⟨1,1,none⟩=some (.int .u8 2)
 c2:w.cell? ⟨1,2,none⟩=some (.int .u8 7)
 c3:w.cell? ⟨1,3,none⟩=some (.int .u8 4)
 c4:w.cell? ⟨1,4,none⟩=some (.int .u8 22)
 c5:w.cell? ⟨1,5,none⟩=some (.int .u8 16)
theorem Env.lt{w:World}(h:Env w):1<w.heap.size:=World.block_lt_of_cell? _ _ h.c0
theorem Env.below{w w':World}(h:Env w){B:Nat}(hb:Below B w w')(hB:w.heap.size<=B):Env w':=by
 have hlt:=h.lt;have k:∀i,w'.cell? ⟨1,i,none⟩=w.cell? ⟨1,i,none⟩:=λi=>hb.cell (Nat.lt_of_lt_of_le hlt hB);exact⟨(k 0).trans h.c0,(k 1).trans h.c1,(k 2).trans h.c2,(k 3).trans h.c3,(k 4).trans h.c4,(k 5).trans h.c5⟩
theorem Env.alloc{w:World}(h:Env w)(o:Obj):Env (w.alloc o):=h.below ((Below.refl _ _).alloc zl o) zl
theorem ul(x y:Nat)(hx:x<256)(hy:y<256):bits .and .u8 (x:Int) (y:Int)=((x &&& y:Nat):Int):=by
 have h:∀a:Fin 256,∀b:Fin 256,bits .and .u8 (a.val:Int) (b.val:Int)=((a.val &&& b.val:Nat):Int):=by
  intro a b;show IntKind.u8.wrap ((BitVec.ofInt 8 (a.val:Int) &&& BitVec.ofInt 8 (b.val:Int)).toNat:Int)=_;rw[BitVec.ofInt_natCast,BitVec.ofInt_natCast,BitVec.toNat_and,BitVec.toNat_ofNat,BitVec.toNat_ofNat,Nat.mod_eq_of_lt zo,Nat.mod_eq_of_lt zo];have:a.val &&& b.val<=a.val:=Nat.and_le_left;simp[IntKind.wrap,IntKind.bits,IntKind.signed];omega
 exact h ⟨x,hx⟩ ⟨y,hy⟩
theorem Lh:(Tryz.prog.info? 295).map (·.size)=some 2:=zk
theorem yY(v0 v1 v2 v3 v4 v5 x y:Value)(k:Int)(hk:0<=k/\k<3)(h:(([v0,v1,v2,v3,v4,v5].drop (k.toNat*2)).take 2)=[x,y])(w:World) :
  (Instr.index 296 (.agg #[v0,v1,v2,v3,v4,v5]) (.int .i64 k)).run Tryz.prog w = .ok (.agg #[x,y]) w:=by
 have hu:=Tryz.underlying296
 obtain⟨i,hi,hs⟩:=Option.map_eq_some_iff.1 Lh
 simp[Instr.index,run_underlying hu,asIntOf,hk,go_sem,sizeOf,typeInfo,hs,part,hi,h]
def QV(a c:Nat)(k:Nat):Prop:=(0<k->a≠2)/\(1<k->a≠4)/\(2<k->c≠16)
theorem BA(f:Nat)(hf:f<256)(b:Bool)(hb:gO f=b)(W:World)(he:Env W) :
  Calls Tryz.prog 189 #[.int .u8 (f:Int)] W λe w'=>e = .returned (.bool b)/\Below W.heap.size W w':=by
 obtain⟨c0,c1,c2,c3,c4,c5⟩:=he
 rw[oa.GC f hf]at hb
 have a7:=ul f 7 hf zo
 have a22:=ul f 22 hf zo
 generalize f &&& 7=a at a7 hb
 generalize f &&& 22=c at a22 hb
 have a7':bits .and .u8 (f:Int) 7=(a:Int):=a7
 have ZG:bits .and .u8 (f:Int) 22=(c:Int):=a22
 have HB:=Lib.hid hb
 clear a7 a22 hb
 go_in
 go_wp2_with fail
 go_loopw [6] (λi w'=>∃k:Nat,k<=3/\i = .int .i64 (k:Int)/\QV a c k/\Below W.heap.size W w') (λi _=>3 - (RowKit.intOf i).toNat)
 case atStart=>exact⟨0,by omega,rfl,⟨λh=>by omega,λh=>by omega,λh=>by omega⟩,Below.refl _ _⟩
 case round =>
  obtain⟨k,hk,rfl,hs,hbel⟩:=hrel;have hq:k=0\/k=1\/k=2\/k=3:=zo
  rcases hq with rfl | rfl | rfl | rfl
  ·have X:=yY (.int .u8 7) (.int .u8 2) (.int .u8 7) (.int .u8 4) (.int .u8 22) (.int .u8 16) _ _ 0 zo rfl;by_cases h:a=2
   ·have d:((a:Int)==2)=true:=zt
    have HF:Hid (b=true):=by show _=_;rw[← HB.out,h];simp
    clear h;go_wp2_with fail;go_ret;exact⟨by rw[HF.out];rfl,(hbel.alloc hbel.size _)⟩
   ·have d:((a:Int)==2)=false:=zt;have HH:=Lib.hid h;clear h;go_wp2_with fail;go_roundw
    case rel=>exact⟨1,by omega,by go_num,⟨λ_=>HH.out,λh=>by omega,λh=>by omega⟩,hbel.alloc hbel.size _⟩
    case measure=>simp[RowKit.intOf]
  ·have X:=yY (.int .u8 7) (.int .u8 2) (.int .u8 7) (.int .u8 4) (.int .u8 22) (.int .u8 16) _ _ 1 zo rfl;by_cases h:a=4
   ·have d:((a:Int)==4)=true:=zt
    have HF:Hid (b=true):=by show _=_;rw[← HB.out,h];simp
    clear h;go_wp2_with fail;go_ret;exact⟨by rw[HF.out];rfl,(hbel.alloc hbel.size _)⟩
   ·have d:((a:Int)==4)=false:=zt;have HH:=Lib.hid h;clear h;go_wp2_with fail;go_roundw
    case rel=>exact⟨2,by omega,by go_num,⟨λ_=>hs.1 zo,λ_=>HH.out,λh=>by omega⟩,hbel.alloc hbel.size _⟩
    case measure=>simp[RowKit.intOf]
  ·have X:=yY (.int .u8 7) (.int .u8 2) (.int .u8 7) (.int .u8 4) (.int .u8 22) (.int .u8 16) _ _ 2 zo rfl;by_cases h:c=16
   ·have d:((c:Int)==16)=true:=zt
    have HF:Hid (b=true):=by show _=_;rw[← HB.out,h];simp
    clear h;go_wp2_with fail;go_ret;exact⟨by rw[HF.out];rfl,(hbel.alloc hbel.size _)⟩
   ·have d:((c:Int)==16)=false:=zt;have HH:=Lib.hid h;clear h;go_wp2_with fail;go_roundw
    case rel=>exact⟨3,by omega,by go_num,⟨λ_=>hs.1 zo,λ_=>hs.2.1 zo,λ_=>HH.out⟩,hbel.alloc hbel.size _⟩
    case measure=>simp[RowKit.intOf]
  ·have HF:Hid (b=false):=by
    show _=_;have h1:=hs.1 zo;have h2:=hs.2.1 zo;have h3:=hs.2.2 zo;rw[← HB.out];simp[h1,h2,h3]
   go_wp2_with fail;go_ret;exact⟨by rw[HF.out];rfl,hbel⟩
end Tc
end Go.Proofs.YtbhnbcadgmagpaaGreatDoor
namespace Go.Proofs.YtbhnbcadgmagpaaGreatDoor
open Go.Lib (hid)
open Go.ChangeShapes Go.WideShapes Go.ChangeAt Go.RowKit Go.aN
namespace Tc
open oa (gO N' Dt vX lH qm)
open iC (add cV)
open ov (word aU j7 jz)
open Ip (ax mN Row M6 dy fS jZ)
theorem GN{W wr:World}{v s g:Nat}(hs:s<=9223372036854775807)(h:nK.K_ W v s g s wr)(e:Ending)(he:e = .returned (.slice (some ⟨g,0,none⟩) s s)):mN W s (qL.mg v s) e wr:=by
 obtain⟨hb,l,hl,hby,ho⟩:=h;have:l=qL.mg v s:=FV (by rw[qL.Jh,hl]) (λj hj=>hby j zo);subst this;exact⟨_,_,he,ho,hb,Nat.le_refl _,hs⟩
theorem E6(v:Int)(s:Nat)(hv0:0<=v)(hv:v<18446744073709551616)(h1:1<=s)(h2:s<=8)(W:World) :
  Calls Tryz.prog 277 #[.int .u64 v,.int .i64 (s:Int)] W (mN W s (qL.mg v.toNat s)):=by
 obtain⟨i0,hi0,hz0,hz1,jc⟩:=info_parts dy
 go_in
 go_wp2_with (at_make;refine wpList_make_full _ rfl (.tmp 13) (.tmp 13) _ rfl W.heap.size 5 i0 _ 1 Tryz.underlying27 hi0 hz0 hz1 .i64 .i64 (s:Int) (s:Int) s rfl rfl rfl rfl (by rw[jc];omega) (by unfold maxLen;omega) zl ?_;intro w1 hown zS;rw[xb]at hown)
 go_loopw [6,17] (λ_ i w'=>∃k:Nat,k<=s/\i = .int .i64 (k:Int)/\nK.K_ W v.toNat s W.heap.size k w') (λ_ i _=>s - (RowKit.intOf i).toNat)
 case atStart=>exact⟨0,by omega,rfl,(Below.refl _ _).grown zS zl zs,List.replicate s 0,by simp,λj h=>absurd h zo,hown⟩
 case round =>
  obtain⟨k,hk,rfl,hbel,l,hl,hby,ho⟩:=hrel;clear hown zS;by_cases hlt:k<s
  ·have hc1:=ho.cellAt k zo;rw[oF l k zo]at hc1;have I5:=ho.frozenAt k;have HB:=hid (nK.K9 v s k hv0 hlt);have HO:=hid ho;have HY:=hid hby;have HL:=hid hl;clear ho hby hl;go_wp2;go_roundw
   case rel=>exact⟨k+1,by omega,by go_num,nK.Du zl hlt l _ HB.out hbel HL.out HY.out HO.out⟩
   case measure=>simp[RowKit.intOf];omega
  ·have hK:k=s:=zo;subst hK;have HC:=hid (GN (W:=W) (v:=v.toNat) zo ⟨hbel,l,hl,hby,ho⟩);clear ho hby hl;go_wp2;go_ret;exact HC.out _ rfl
theorem BB(n:Nat)(hn:n<4294967296)(W:World) :
  Calls Tryz.prog 277 #[.int .u64 (n:Int),.int .i64 4] W (mN W 4 (jz n)):=by
 have h:=E6 (n:Int) 4 zo zo zo zo W
 rw[Int.toNat_natCast,ov.K2]at h
 exact h
theorem Li(n:Nat)(hn:n<18446744073709551616)(W:World) :
  Calls Tryz.prog 277 #[.int .u64 (n:Int),.int .i64 2] W (mN W 2 (j7 n)):=by
 have h:=E6 (n:Int) 2 zo zo zo zo W
 rw[Int.toNat_natCast,ov.N_]at h
 exact h
theorem bH(A:Option Addr)(n c:Nat)(bs:List UInt8)(B:Nat)(a:Nat)(W:World)(hb:bI W B A n bs)(hc:n<=c)(hm:c<=9223372036854775807)(h3:a+2<=n) :
  Calls Tryz.prog 137 #[.slice A n c,.int .i64 (a:Int)] W λe w'=>e = .returned (.int .u16 (word bs a:Int))/\W=w':=by
 obtain⟨b,off,rfl,hlt,hcell⟩:=hb.at_ zo
 have hv:=Ip.mM bs a (by rw[hb.len];omega)
 have C:=nK.EZ b off n c bs a 2 hb.len hc hm zo zo h3 W hcell
 rw[hv]at C
 have HC:=hid C
 have hw:=aU bs a
 clear C hcell hv hb
 go_in
 go_wp2_with (go_at_call 190;refine HC.out.mono ?_;rintro e w' ⟨rfl,rfl⟩)
 go_ret
 exact⟨rfl,rfl⟩
theorem VM(w:World)(x y:Nat)(hx:x<256)(hy:y<256):bI (w.alloc (.cells #[.int .u8 (x:Int),.int .u8 (y:Int)] 5)) (w.alloc (.cells #[.int .u8 (x:Int),.int .u8 (y:Int)] 5)).heap.size (some ⟨w.heap.size,0,none⟩) 2 [UInt8.ofNat x,UInt8.ofNat y] :=
 fS (jZ w [UInt8.ofNat x,UInt8.ofNat y] 2 rfl zo _ (by simp[fE];omega))
theorem uP(pr sr ds:Nat)(n:Int)(v:Nat)(ZH:pr<256)(uQ:sr<4294967296)(hds:ds<4294967296)(hv:v<18446744073709551616)(hn:IntKind.u64.wrap n=(v:Int))(W:World) :
  Calls Tryz.prog 247 #[.int .u8 (pr:Int),.int .u32 (sr:Int),.int .u32 (ds:Int),.int .i64 n] W λe w'=>e = .returned (.int .u16 (Dt pr sr ds v:Int))/\Below W.heap.size W w':=by
 obtain⟨i0,hi0,hz0,hz1,jc⟩:=info_parts dy
 have HN:=hid hn
 clear hn
 go_in
 go_wp2_with fail
 refine(BB sr uQ W).mono ?_
 rintro e w1 ⟨A1,c1,rfl,Yb,aK,hc1⟩
 have H1:=hid Yb
 clear Yb
 go_wp2_with fail
 refine(BB ds hds w1).mono ?_
 rintro e w2 ⟨A2,c2,rfl,px,aZ,hc2⟩
 have hs1:=aK.size
 have hs2:=aZ.size
 have H2:=hid px
 have H3:=hid (bC H1.out aZ)
 have dG:=hid (aK.trans (aZ.mono hs1))
 clear px H1 aK aZ
 go_wp2_with (first
  | (
    refine pU 17 ?_
    refine gE (W0:=W) 8 rfl (.tmp 13) (.tmp 16) _ rfl 5 i0 Tryz.underlying27 hi0 hz0 hz1 jc _ 4 _ rfl H3.out dG.out _ A2 4 c2 _ rfl (fS H2.out) rfl zo ?_
    intro A3 c3 w3 H4 fF _ _
    clear H2 H3 dG)
  | (
    refine pU 21 ?_
    refine gE (W0:=W) 10 rfl (.tmp 18) (.tmp 20) _ rfl 5 i0 Tryz.underlying27 hi0 hz0 hz1 jc _ 8 _ rfl (H4.out.alloc _) (fF.out.alloc fF.out.size _) _ (some ⟨w3.heap.size,0,none⟩) 2 2 _ rfl (VM w3 0 pr zo ZH) rfl zo ?_
    intro A4 c4 w4 H5 rL _ _
    clear H4 fF))
 rw[HN.out]
 refine(Li v hv w4).mono ?_
 rintro e w5 ⟨A5,c5,rfl,Yc,VN,hc5⟩
 have H6:=hid Yc
 have H7:=hid (bC H5.out (VN.mono zl))
 have Dw:=hid (rL.out.trans (VN.mono rL.out.size))
 clear Yc VN H5 rL
 go_wp2_with (
   refine pU 26 ?_
   refine gE (W0:=W) 12 rfl (.tmp 22) (.tmp 25) _ rfl 5 i0 Tryz.underlying27 hi0 hz0 hz1 jc _ 10 _ rfl H7.out Dw.out _ A5 2 c5 _ rfl (fS H6.out) rfl zo ?_
   intro A6 c6 w6 H8 ZI _ Ye
   clear H6 H7 Dw)
 refine(Sm.qp 0 A6 12 c6 (N' pr sr ds v) w6 w6.heap.size (fS H8.out) zo Ye.out.1 Ye.out.2).mono ?_
 rintro e w' ⟨rfl,rfl⟩
 go_wp2_with fail
 go_ret
 exact⟨rfl,ZI.out⟩
theorem BC(n:Nat)(h:n<=9223372036854775807):IntKind.u64.wrap (n:Int)=(n:Int):=by simp[IntKind.wrap,IntKind.bits,IntKind.signed];omega
theorem rM(sr ds:Nat)(A:Option Addr)(n c:Nat)(bs:List UInt8)(B:Nat)(W:World)(hb:bI W B A n bs)(hB:B<=W.heap.size)(hc:n<=c)(hm:c<=9223372036854775807)(uQ:sr<4294967296)(hds:ds<4294967296) :
  Calls Tryz.prog 188 #[.int .u32 (sr:Int),.int .u32 (ds:Int),.slice A n c] W λe w'=>e = .returned (.int .u16 (vX sr ds bs:Int))/\Below W.heap.size W w':=by
 have HT:Hid (add (Dt 6 sr ds n) bs=vX sr ds bs):=by show _=_;rw[← hb.len];rfl
 have HB:=hid hb
 clear hb
 go_in
 go_wp2_with fail
 refine(uP 6 sr ds (n:Int) n zo uQ hds zo (BC n zo) W).mono ?_
 rintro e w1 ⟨rfl,aK⟩
 have dF:=hid (HB.out.below (aK.mono hB))
 have BD:=hid aK
 have hp:=lH 6 sr ds n
 clear aK
 go_wp2_with fail
 refine(Sm.qp (Dt 6 sr ds n) A n c bs w1 B dF.out hp hc hm).mono ?_
 rintro e w' ⟨rfl,rfl⟩
 go_wp2_with fail
 go_ret
 exact⟨ax (by rw[HT.out]),BD.out⟩
end Tc
namespace Tc
open oa (gO N' Dt vX lH qm eO)
open iC (add cV)
open ov (word aU j7 jz)
open Ip (ax mN Row M6 dy fS jZ)
theorem cL(sr ds:Nat)(A:Option Addr)(n c:Nat)(bs:List UInt8)(B:Nat)(W:World)(hb:bI W B A n bs)(hB:B<=W.heap.size)(hc:n<=c)(hm:c<=9223372036854775807)(uQ:sr<4294967296)(hds:ds<4294967296)(he:Env W) :
  Calls Tryz.prog 136 #[.int .u32 (sr:Int),.int .u32 (ds:Int),.slice A n c] W λe w'=>e = .returned (.int .i64 (eO sr ds bs:Int))/\Below W.heap.size W w':=by
 have hl:=hb.len
 by_cases E5:n<20
 ·have HF:Hid (eO sr ds bs=4):=by show _=_;unfold eO;rw[if_pos zo]
  clear hb hl;go_in;go_wp2_with fail;go_ret;exact⟨ax (by rw[HF.out];rfl),Below.refl _ _⟩
 ·obtain⟨b,off,rfl,hlt,hcell⟩:=hb.at_ zo;have c12:=hcell 12 zo;have c13:=hcell 13 zo;have i12:(12:Int)<n:=zo;have i13:(13:Int)<n:=zo;have y12:=dB bs 12;have UH:=dB bs 13;have HB:=hid hb;have HL:=hid hl;clear hb hl hcell;by_cases h5:aJ bs 12 / 16<5
  ·have HF:Hid (eO sr ds bs=6):=by show _=_;unfold eO;rw[if_neg (by have:=HL.out;omega),if_pos h5]
   go_in;go_wp2_with fail;go_ret;exact⟨ax (by rw[HF.out];rfl),Below.refl _ _⟩
  ·by_cases h6:n<aJ bs 12 / 16*4
   ·have HF:Hid (eO sr ds bs=4):=by show _=_;unfold eO;rw[if_neg (by have:=HL.out;omega),if_neg h5,if_pos (by have:=HL.out;omega)]
    go_in;go_wp2_with fail;go_ret;exact⟨ax (by rw[HF.out];rfl),Below.refl _ _⟩
   ·have HF:Hid (eO sr ds bs=if vX sr ds bs≠65535 then 7 else if gO (aJ bs 13)=true then 0 else 11):=by
     show _=_;unfold eO;rw[if_neg (by have:=HL.out;omega),if_neg h5,if_neg (by have:=HL.out;omega)]
    have HT:=hid (rM sr ds (some ⟨b,off,none⟩) n c bs B W HB.out hB hc hm uQ hds);have htl:=qm sr ds bs;generalize vX sr ds bs=r at HT htl HF;go_in;go_wp2_with fail;refine HT.out.mono ?_;rintro e w1 ⟨rfl,aK⟩;have BD:=hid aK;have sX:=hid (he.below aK zl);have d13:=(aK.cell (p:=⟨b,off+13,none⟩) (by show b<_;omega)).trans c13;clear aK HT c12 c13;by_cases h7:r=65535
    ·have d7:((r:Int)!=65535)=false:=zt;rw[h7]at HF
     have M5:Hid (eO sr ds bs=if gO (aJ bs 13)=true then 0 else 11):=by show _=_;rw[HF.out,if_neg zo]
     clear h7 HF
     cases hs:gO (aJ bs 13)
     ·have QX:Hid (eO sr ds bs=11):=by show _=_;rw[M5.out,hs];rfl
      have HS:=hid (BA (aJ bs 13) UH false hs w1 sX.out);clear hs M5;go_wp2_with fail;refine HS.out.mono ?_;rintro e w2 ⟨rfl,aZ⟩;have az:=BD.out.trans (aZ.mono BD.out.size);clear aZ;go_wp2_with fail;go_ret;exact⟨ax (by rw[QX.out];rfl),az⟩
     ·have QX:Hid (eO sr ds bs=0):=by show _=_;rw[M5.out,hs];rfl
      have HS:=hid (BA (aJ bs 13) UH true hs w1 sX.out);clear hs M5;go_wp2_with fail;refine HS.out.mono ?_;rintro e w2 ⟨rfl,aZ⟩;have az:=BD.out.trans (aZ.mono BD.out.size);clear aZ;go_wp2_with fail;go_ret;exact⟨ax (by rw[QX.out];rfl),az⟩
    ·have d7:((r:Int)!=65535)=true:=zt
     have QX:Hid (eO sr ds bs=7):=by show _=_;rw[HF.out,if_pos zo]
     clear h7 HF;go_wp2_with fail;go_ret;exact⟨ax (by rw[QX.out];rfl),BD.out⟩
theorem Tl(x:Nat)(h:x<256):bits .and .u8 (x:Int) 63=(x:Int) % 64:=by
 have h1:=ul x 63 h zo;have h2:x &&& 63=x % 64:=Nat.and_two_pow_sub_one_eq_mod x 6;rw[h2]at h1;exact h1.trans zo
abbrev gU(e:Nat):Value:=.tuple #[.int .u16 0,.int .u16 0,.int .u8 0,.int .i64 (e:Int)]
abbrev okV(bs:List UInt8):Value:=.tuple #[.int .u16 (word bs 0:Int),.int .u16 (word bs 2:Int),.int .u8 ((aJ bs 13:Int) % 64),.int .i64 0]
def pV(e:Nat)(bs:List UInt8):Value:=if e=0 then okV bs else gU e
theorem sO{e:Nat}(bs:List UInt8)(h:e=0):pV e bs=okV bs:=by unfold pV;rw[if_pos h]
theorem mP{e:Nat}(bs:List UInt8)(h:e≠0):pV e bs=gU e:=by unfold pV;rw[if_neg h]
theorem fB(sr ds:Nat)(A:Option Addr)(n c:Nat)(bs:List UInt8)(B:Nat)(W:World)(hb:bI W B A n bs)(hB:B<=W.heap.size)(hc:n<=c)(hm:c<=9223372036854775807)(uQ:sr<4294967296)(hds:ds<4294967296)(he:Env W)(h0:eO sr ds bs≠0) :
  Calls Tryz.prog 96 #[.int .u32 (sr:Int),.int .u32 (ds:Int),.slice A n c] W λe w'=>e = .returned (gU (eO sr ds bs))/\Below W.heap.size W w':=by
 have HC:=hid (cL sr ds A n c bs B W hb hB hc hm uQ hds he)
 have d:((eO sr ds bs:Int)!=0)=true:=zt
 generalize eO sr ds bs=er at HC d
 clear hb h0
 go_in
 go_wp2_with fail
 refine HC.out.mono ?_
 rintro e w1 ⟨rfl,aK⟩
 have BD:=hid aK
 clear aK
 go_wp2_with fail
 exact bodyPost_ret (v:=gU er) (by simp[results,Tryz.results96,go_sem]) rfl ⟨rfl,BD.out⟩
theorem Lj(A:Option Addr)(n c:Nat)(bs:List UInt8)(B:Nat)(a:Int)(W:World)(hb:bI W B A n bs)(hc:n<=c)(hm:c<=9223372036854775807)(h0:0<=a)(h3:a+2<=n) :
  Calls Tryz.prog 137 #[.slice A n c,.int .i64 a] W λe w'=>e = .returned (.int .u16 (word bs a.toNat:Int))/\w'=W:=by
 obtain⟨a,rfl⟩:=Int.eq_ofNat_of_zero_le h0
 exact(bH A n c bs B a W hb hc hm zo).mono λ_ _ ⟨h1,h2⟩=>⟨h1,h2.symm⟩
theorem kQ(sr ds:Nat)(A:Option Addr)(n c:Nat)(bs:List UInt8)(B:Nat)(W:World)(hb:bI W B A n bs)(hB:B<=W.heap.size)(hc:n<=c)(hm:c<=9223372036854775807)(uQ:sr<4294967296)(hds:ds<4294967296)(he:Env W)(h0:eO sr ds bs=0) :
  Calls Tryz.prog 96 #[.int .u32 (sr:Int),.int .u32 (ds:Int),.slice A n c] W λe w'=>e = .returned (okV bs)/\Below W.heap.size W w':=by
 have HC:=hid (cL sr ds A n c bs B W hb hB hc hm uQ hds he)
 have E5:=oa.K5 h0
 rw[hb.len]at E5
 rw[h0]at HC
 have HB:=hid hb
 have w0:=aU bs 0
 have w2:=aU bs 2
 have UH:=dB bs 13
 have i13:(13:Int)<n:=zo
 have a63:=Tl (aJ bs 13) UH
 clear hb h0
 go_in
 go_wp2_with fail
 refine HC.out.mono ?_
 rintro e w1 ⟨rfl,aK⟩
 have BD:=hid aK
 have dF:=HB.out.below (aK.mono hB)
 obtain⟨b,off,rfl,-,hcell⟩:=dF.at_ zo
 have c13:=hcell 13 zo
 have dF:=hid dF
 clear aK hcell HC
 go_wp2_with fail
 go_quiet ((go_at_call 137;exact Calls.quiet_of_same (Lj (some ⟨b,off,none⟩) n c bs B _ _ (dF.out.drewN _) hc hm zo zo)))
 go_wp2_with fail
 exact bodyPost_ret (v:=okV bs) (by simp[results,Tryz.results96,go_sem]) rfl ⟨rfl,below_drewN' BD.out _⟩
theorem b8(sr ds:Nat)(A:Option Addr)(n c:Nat)(bs:List UInt8)(B:Nat)(W:World)(hb:bI W B A n bs)(hB:B<=W.heap.size)(hc:n<=c)(hm:c<=9223372036854775807)(uQ:sr<4294967296)(hds:ds<4294967296)(he:Env W) :
  Calls Tryz.prog 96 #[.int .u32 (sr:Int),.int .u32 (ds:Int),.slice A n c] W λe w'=>e = .returned (pV (eO sr ds bs) bs)/\Below W.heap.size W w':=by
 by_cases h0:eO sr ds bs=0
 ·rw[sO bs h0];exact kQ sr ds A n c bs B W hb hB hc hm uQ hds he h0
 ·rw[mP bs h0];exact fB sr ds A n c bs B W hb hB hc hm uQ hds he h0
end Tc
end Go.Proofs.YtbhnbcadgmagpaaGreatDoor
namespace Go.Proofs.YtbhnbcadgmagpaaGreatDoor
open Go.ChangeShapes Go.WideShapes Go.ChangeAt Go.RowKit Go.aN
namespace Tc
open oa (gO N' Dt vX lH qm eO)
open iC (add cV)
open ov (word aU j7 jz)
open Ip (ax mN Row M6 dy fS jZ)
structure UW(W w:World)(B:Nat)(A:Option Addr)(n:Nat)(x:List UInt8)(g:Nat)(l:List UInt8):Prop where
 row:Row w g l
 lt:W.heap.size<=g
 az:Below W.heap.size W w
 Ti:bI w B A n x
 hB:B<=W.heap.size
section
variable {W w w':World}{B:Nat}{A:Option Addr}{n:Nat}{x:List UInt8}{g:Nat}{l l':List UInt8}
theorem UW.but(h:UW W w B A n x g l)(hr:Row w' g l')(hb:M6 g w w'):UW W w' B A n x g l':=by
 have h1:=h.row.lt;have h2:=h.lt;have h3:=h.hB;exact⟨hr,h.lt,h.az.grown hb h.az.size (by intro k hk;injection hk with hk;omega),h.Ti.keep λp hp=>World.cell?_of_block (hb.block p.block zo zt),h.hB⟩
theorem UW.below(h:UW W w B A n x g l)(hb:Below w.heap.size w w'):UW W w' B A n x g l :=
 ⟨(hb.block g h.row.lt).trans h.row,h.lt,h.az.trans (hb.mono h.az.size),h.Ti.below (hb.mono (Nat.le_trans h.hB h.az.size)),h.hB⟩
theorem BF(w:World)(g i:Nat)(u:Value):M6 g w (w.setCell ⟨g,i,none⟩ u) :=
 ⟨rfl,rfl,rfl,by simp[World.setCell],λk _ hk=>Below.heap_setCell w ⟨g,i,none⟩ u k (λe=>hk (by rw[e]))⟩
theorem UW.set(h:UW W w B A n x g l)(j:Nat)(v:Int)(c:UInt8)(hv:v=(c.toNat:Int)):UW W (w.setCell ⟨g,j,none⟩ (.int .u8 v)) B A n x g (l.set j c) :=
 h.but (h.row.set j v c hv) (BF w g j _)
end
end Tc
end Go.Proofs.YtbhnbcadgmagpaaGreatDoor
namespace Go.Proofs.YtbhnbcadgmagpaaGreatDoor
open Go.ChangeShapes Go.WideShapes Go.ChangeAt Go.RowKit Go.aN
namespace Tc
open oa (gO N' Dt vX lH qm eO)
open iC (add cV)
open ov (word aU j7 jz)
open Ip (ax mN Row M6 dy fS jZ)
end Tc
end Go.Proofs.YtbhnbcadgmagpaaGreatDoor
namespace Go.Proofs.YtbhnbcadgmagpaaGreatDoor
open Go.ChangeShapes Go.WideShapes Go.ChangeAt Go.RowKit Go.aN Go.Lib
namespace Tc
theorem XF:(Tryz.prog.globals[1]?).map (·.type)=some 296:=zk
theorem MR:Tryz.prog.cellsOf 295=2:=zk
theorem cellsByte:Tryz.prog.cellsOf 5=1:=zk
theorem sg{w:World}{fuel:Nat}{cs:List Value}{a b:Int}{p:List MemPlace}
  (h:DataW.trod (λ_=>()) Tryz.prog w 0 (λ_=>true) false fuel 295 cs=some (.agg [.lit (.int .u8 a),.lit (.int .u8 b)],p)):cs[0]? = some (.int .u8 a)/\cs[1]? = some (.int .u8 b):=by
 obtain⟨xs,n,_,hx,hl,_,hall⟩:=DataW.trod_struct Tryz.underlying295 h
 have hxs:xs.map (·.1)=[.lit (.int .u8 a),.lit (.int .u8 b)]:=by
  have:=congrArg Prod.fst hx;simpa using this.symm
 match xs,hxs with
 | [x0,x1],hxs =>
  simp only[List.map_cons,List.map_nil,List.cons.injEq,and_true]at hxs
  have h0:DataW.trod (λ_=>()) Tryz.prog w 0 (λ_=>true) false n 5 ((cs.drop 0).take (Tryz.prog.cellsOf 5))=some x0:=hall 0 _ rfl
  have h1:DataW.trod (λ_=>()) Tryz.prog w 0 (λ_=>true) false n 5 ((cs.drop 1).take (Tryz.prog.cellsOf 5))=some x1:=hall 1 _ rfl
  rw[cellsByte]at h0 h1
  obtain⟨z0,e0,f0,_⟩:=DataW.trod_int Tryz.underlying5 h0
  obtain⟨z1,e1,f1,_⟩:=DataW.trod_int Tryz.underlying5 h1
  subst f0;subst f1
  simp only[DataW.lit.injEq,Lit.int.injEq,true_and]at hxs
  obtain⟨rfl,rfl⟩:=hxs
  have e0:=congrArg (·[0]?) e0
  have e1:=congrArg (·[0]?) e1
  simp only[List.getElem?_take,List.getElem?_drop]at e0 e1
  exact⟨by simpa using e0,by simpa using e1⟩
theorem iO{W:World}(hL:laidMetH Tryz.prog [("mantlet/tcp.consistent",Rows.laid_mantlet_tcp_consistent)] W):Env W:=by
 rw[MakeChecks.laidMetH_plain _ _ _ zk]at hL;obtain⟨ps,⟨g,t,cs,fuel,p,q,hg,hty,hvar,hd,_,_⟩,_,_⟩:=hL;obtain rfl:=Option.some.inj (Tk.symm.trans hg);obtain rfl:=Option.some.inj (XF.symm.trans hty)
 cases fuel with
 | zero=>simp[DataW.trod]at hd
 | succ fuel =>
  unfold Rows.laid_mantlet_tcp_consistent at hd
  simp only[DataW.trod,Tryz.underlying296,MR]at hd
  split at hd
  ·rename_i hlen;obtain⟨xs,hm,hx⟩:=Option.map_eq_some_iff.1 hd
   have hxs:xs.map (·.1)=[.agg [.lit (.int .u8 7),.lit (.int .u8 2)],.agg [.lit (.int .u8 7),.lit (.int .u8 4)],.agg [.lit (.int .u8 22),.lit (.int .u8 16)]]:=by
    have:=congrArg Prod.fst hx;simpa using this
   match xs,hxs with
   | [(d0,q0),(d1,q1),(d2,q2)],hxs =>
    simp only[List.map_cons,List.map_nil,List.cons.injEq,and_true]at hxs
    obtain⟨rfl,rfl,rfl⟩:=hxs
    obtain⟨b0,hb0,Lt⟩:=mapM_at hm 0 0 zs
    obtain⟨b1,aK,I5⟩:=mapM_at hm 1 1 zs
    obtain⟨b2,aZ,Ob⟩:=mapM_at hm 2 2 zs
    simp at hb0 aK aZ
    subst hb0;subst aK;subst aZ
    obtain⟨x0,x1⟩:=sg Lt
    obtain⟨x2,x3⟩:=sg I5
    obtain⟨x4,x5⟩:=sg Ob
    simp only[List.getElem?_take,List.getElem?_drop]at x0 x1 x2 x3 x4 x5
    have c:∀i v,cs.toList[i]? = some v->W.cell? ⟨1,i,none⟩=some v:=λi v h=>by
     rw[World.var?_cell Tk hvar i,← Array.getElem?_toList];exact h
    exact⟨c 0 _ (by simpa using x0),c 1 _ (by simpa using x1),c 2 _ (by simpa using x2),c 3 _ (by simpa using x3),c 4 _ (by simpa using x4),c 5 _ (by simpa using x5)⟩
  ·cases hd
end Tc
end Go.Proofs.YtbhnbcadgmagpaaGreatDoor
