import Derived.Test.YtbhnbcadgmagpaaGreatDoorBii
import Derived.Test.YtbhnbcadgmagpaaGreatDoorJ1
import Derived.Test.YtbhnbcadgmagpaaGreatDoorJ36
import Derived.Test.YtbhnbcadgmagpaaGreatDoorJ37
import Derived.Test.YtbhnbcadgmagpaaGreatDoorJ42
import Derived.Test.YtbhnbcadgmagpaaGreatDoorJ3
set_option linter.unusedVariables false
set_option linter.unusedSimpArgs false
set_option maxHeartbeats 4000000
set_option maxRecDepth 100000
namespace Go.Proofs.YtbhnbcadgmagpaaGreatDoor
open Go.ChangeShapes Go.WideShapes Go.ChangeAt Go.RowKit Go.aN Go.Lib
namespace Pg
open bg (Ms af bq ay aP ag L4 aH aq ai bD)
open aE (R)
open ak (Ke)
open Me (ptr)
open Tb (UW TM Fw)
def zL(z:Int):Int:=if 64<z/\z<=4096 then 64 else z
theorem pe{z N:Int}{T:Nat->Int}:(Tryz.prog.info? 24).map (·.size)=some (Au.iT z N T).size:=(by kernel_rfl:(Tryz.prog.info? 24).map (·.size)=some 18)
theorem Em(z N:Int)(T:Nat->Int)(h1:64<z)(h2:z<=4096)(w:World):Calls Tryz.prog 8 #[.agg (Au.iT z N T)] w λe w'=>e = .returned (.agg (Au.iT 64 N T))/\Below w.heap.size w w':=by
 have HX:=hid ((aF.box w (Au.iT 64 N T) 24).alloc (.cells (Au.iT 0 0 (λ_=>0)) 24));have d1:decide (z>64)=true:=zt;have d2:decide (z<=4096)=true:=zt;go_in;go_wp2_with (refine wpList_load_row rfl 24 (.tmp 1) rfl w.heap.size rfl _ (Au.iT 64 N T) _ _ HX.out Tryz.underlying24 rfl pe ?_);have HR:=aF.n5 w (.cells (Au.iT 64 N T) 24) (Au.iT 64 N T) 24;exact bodyPost_ret (v:=.agg (Au.iT 64 N T)) (results_cell_row rfl _ _ (w.heap.size+1) _ _ _ _ rfl HR Tryz.underlying24 rfl pe) rfl ⟨rfl,((Below.refl _ w).alloc zl _).alloc zs _⟩
theorem Eo(z N:Int)(T:Nat->Int)(h1:64<z)(h2 : ¬z<=4096)(w:World):Calls Tryz.prog 8 #[.agg (Au.iT z N T)] w λe w'=>e = .returned (.agg (Au.iT z N T))/\Below w.heap.size w w':=by
 have HX:=hid ((aF.box w (Au.iT z N T) 24).alloc (.cells (Au.iT 0 0 (λ_=>0)) 24));have d1:decide (z>64)=true:=zt;have d2:decide (z<=4096)=false:=zt;go_in;go_wp2_with (refine wpList_load_row rfl 24 (.tmp 1) rfl w.heap.size rfl _ (Au.iT z N T) _ _ HX.out Tryz.underlying24 rfl pe ?_);have HR:=aF.n5 w (.cells (Au.iT z N T) 24) (Au.iT z N T) 24;exact bodyPost_ret (v:=.agg (Au.iT z N T)) (results_cell_row rfl _ _ (w.heap.size+1) _ _ _ _ rfl HR Tryz.underlying24 rfl pe) rfl ⟨rfl,((Below.refl _ w).alloc zl _).alloc zs _⟩
theorem Ep(z N:Int)(T:Nat->Int)(h1 : ¬64<z)(w:World):Calls Tryz.prog 8 #[.agg (Au.iT z N T)] w λe w'=>e = .returned (.agg (Au.iT z N T))/\Below w.heap.size w w':=by
 have HX:=hid ((aF.box w (Au.iT z N T) 24).alloc (.cells (Au.iT 0 0 (λ_=>0)) 24));have d1:decide (z>64)=false:=zt;go_in;go_wp2_with (refine wpList_load_row rfl 24 (.tmp 1) rfl w.heap.size rfl _ (Au.iT z N T) _ _ HX.out Tryz.underlying24 rfl pe ?_);have HR:=aF.n5 w (.cells (Au.iT z N T) 24) (Au.iT z N T) 24;exact bodyPost_ret (v:=.agg (Au.iT z N T)) (results_cell_row rfl _ _ (w.heap.size+1) _ _ _ _ rfl HR Tryz.underlying24 rfl pe) rfl ⟨rfl,((Below.refl _ w).alloc zl _).alloc zs _⟩
theorem Er(z N:Int)(T:Nat->Int)(w:World):Calls Tryz.prog 8 #[.agg (Au.iT z N T)] w λe w'=>e = .returned (.agg (Au.iT (zL z) N T))/\Below w.heap.size w w':=by
 by_cases h1:64<z
 ·by_cases h2:z<=4096
  ·rw[show zL z=64 by unfold zL;rw[if_pos ⟨h1,h2⟩]];exact Em z N T h1 h2 w
  ·rw[show zL z=z by unfold zL;rw[if_neg (λh=>h2 h.2)]];exact Eo z N T h1 h2 w
 ·rw[show zL z=z by unfold zL;rw[if_neg (λh=>h1 h.1)]];exact Ep z N T h1 w
theorem Pp(A:Option Addr)(n c:Nat)(hc:n<=c)(hm:c<=9223372036854775807)(w:World):Calls Tryz.prog 9 #[.slice A n c] w λe w'=>e = .returned (.slice A (min n 70) c)/\Below w.heap.size w w':=by
 by_cases h:70<n
 ·rw[Nat.min_eq_right zo];have d1:decide ((n:Int)>70)=true:=zt;go_in;go_wp2_with fail;go_ret;exact⟨rfl,Below.refl _ _⟩
 ·rw[Nat.min_eq_left zo];have d1:decide ((n:Int)>70)=false:=zt;go_in;go_wp2_with fail;go_ret;exact⟨rfl,Below.refl _ _⟩
theorem MK(n m:Nat)(hn:n<256)(hm:0<m)(F_:m<=20)(w:World):Calls Tryz.prog 13 #[.int .u8 (n:Int),.int .i64 (m:Int)] w λe w'=>e = .returned (.int .i64 ((n % m:Nat):Int))/\Below w.heap.size w w':=by
 have d0:((m:Int)==0)=false:=zt
 have e1:IntKind.i64.wrap (n:Int)=n:=by simp[IntKind.wrap,IntKind.bits,IntKind.signed];omega
 have e2:(n:Int).tmod (m:Int)=((n % m:Nat):Int):=by rw[Int.tmod_eq_emod_of_nonneg zo];rfl
 go_in;go_wp2_with fail;go_ret;exact⟨rfl,Below.refl _ _⟩
section
variable {b:Bs}{W w':World}{S S':Sh}{gs:List Nat}{rs:List Rn}{A:Option Addr}{c:Nat}
structure Lp(b:Bs)(S:Sh)(gs:List Nat)(rs:List Rn)(A:Option Addr)(c:Nat)(W:World):Prop where
 lw:Lw b S gs rs (λj=>(Value.slice A gs.length c).ownBlock=some j) W
 wi:WI b.C S rs
 row:W.ownsRow 0 36 1 (.slice A gs.length c) gs.length (gs.map ptr)
theorem vu(w:World)(T:TypeId):(w.alloc (.cells #[] T)).ownsRow 0 T 1 (.slice (some ⟨w.heap.size,0,none⟩) 0 0) 0 [] :=
 ⟨rfl,.inr ⟨w.heap.size,0,#[],rfl,Nat.zero_le _,heap_alloc_new w _,Nat.le_refl _,Nat.zero_le _,rfl,rfl⟩⟩
theorem Lp.next(H:Lp b S gs rs A c W)(hb:Below W.heap.size W w'):Lp b S gs rs A c w':=⟨H.lw.next hb,H.wi,bf H.row λg e=>hb.block g (H.lw.xx g e).2⟩
theorem Lp.put(H:Lp b S gs rs A c W){XA:List Rn}(hl:Lw b S' gs XA (λj=>(Value.slice A gs.length c).ownBlock=some j) w')(hw:WI b.C S' XA)(ho:ar (L8 b λj=>(Value.slice A gs.length c).ownBlock=some j) W w'):Lp b S' gs XA A c w' :=
 ⟨hl,hw,bf H.row λg e=>ho.block g (H.lw.xx g e).2 λh=>h.2 e⟩
theorem Lp.at_(H:Lp b S gs rs A c W){k:Nat}{g:Nat}(hk:gs[k]? = some g):∃x,A=some ⟨x,0,none⟩/\gs.length<=c/\c<=9223372036854775807/\W.cell? ⟨x,k,none⟩=some (ptr g):=by
 obtain⟨x,c',e,h1,h2,h3,h4,h5,_⟩:=pX H.row (j:=k) (u:=ptr g) (by rw[List.getElem?_map,hk];rfl);injection e with e1 e2 e3;subst e1;subst e3;exact⟨x,rfl,h1,h2,h5⟩
theorem Lp.cap(H:Lp b S gs rs A c W):gs.length<=c/\c<=9223372036854775807:=by
 obtain⟨A',c',e,h1,h2⟩:=cO H.row;injection e with e1 e2 e3;subst e3;exact⟨h1,h2⟩
theorem Lp.push{X5:Nat->Prop}{w5:World}{g:Nat}{r:Rn}{A':Option Addr}{c':Nat}(hX:X5=λj=>(Value.slice A gs.length c).ownBlock=some j)(hl:Lw b S (gs++[g]) (rs++[r]) X5 w5)(hw:WI b.C S (rs++[r]))(hg:w5.grownBy w' (Value.slice A gs.length c).ownBlock)
  (hf:(Value.slice A' (gs.length+1) c').ownBlock=(Value.slice A gs.length c).ownBlock\/∃g,(Value.slice A' (gs.length+1) c').ownBlock=some g/\w5.heap.size<=g/\g<w'.heap.size) (hr:w'.ownsRow 0 36 1 (.slice A' (gs.length+1) c') (gs.length+1) (gs.map ptr++[ptr g])):Lp b S (gs++[g]) (rs++[r]) A' c' w':=by
 have el:(gs++[g]).length=gs.length+1:=zs
 subst hX
 refine⟨?_,hw,by rw[el,List.map_append];exact hr⟩
 rw[el]
 refine hl.turn (ar.grown hg λk e=>e) λj hj=>?_
 rcases hf with e | ⟨g2,e,h1,h2⟩
 ·exact .inl (by rw[← e];exact hj)
 ·have:g2=j:=Option.some.inj (e.symm.trans hj);subst this;exact .inr ⟨h1,h2⟩
theorem Lp.none(hl:Lw b S [] [] (λ_=>False) W)(hw:WI b.C S []):Lp b S [] [] (some ⟨W.heap.size,0,none⟩) 0 (W.alloc (.cells #[] 36)) :=
 ⟨hl.turn (ar.aS (ae W _)) (λj hj=>by
  have:W.heap.size=j:=Option.some.inj hj
  subst this
  exact .inr ⟨Nat.le_refl _,by simp⟩),hw,vu W _⟩
end
end Pg
end Go.Proofs.YtbhnbcadgmagpaaGreatDoor
namespace Go.Proofs.YtbhnbcadgmagpaaGreatDoor
open Go.ChangeShapes Go.WideShapes Go.ChangeAt Go.RowKit Go.aN Go.Lib
namespace Pg
open bg (Ms af bq ay aP ag L4 aH aq ai bD)
open aE (R)
open ak (Ke)
open Me (ptr)
open Tb (UW TM Fw)
theorem Pr{W:World}(he:wB W)(z N:Int)(T:Nat->Int)(hz : -9223372036854775808<=z/\z<=9223372036854775807)(hT:∀i,-9223372036854775808<=T i/\T i<=9223372036854775807)(A:Option Addr)(n c:Nat)(rs:List R)(hn:rs.length=n)(hr:gK W W.heap.size (.slice A n c) rs)(ho:∀r∈rs,r.Ok) :
  Calls Tryz.prog 7 #[.agg (Au.iT z N T),.slice A n c] W λe w'=>(∃x:Int,(x==0)=false/\e = .returned (.tuple #[.pointer none,.int .i64 x])/\Below W.heap.size W w') ∨
   ∃(B mb tb rm zn:Nat),e = .returned (.tuple #[ptr B,.int .i64 0])/\Iw ⟨zn,N,T⟩/\Lw (bs W ⟨zn,N,T⟩ B mb tb rm) (oC zn rs) [] [] (λ_=>False) w':=by
 by_cases h0:Au.oZ z N rs=0
 ·have h1:Au.wA z N=true/\Au.m_ rs=0:=by
   unfold Au.oZ at h0;by_cases hb:Au.wA z N=true
   ·rw[if_pos hb]at h0;exact⟨hb,h0⟩
   ·rw[if_neg hb]at h0;omega
  have hb:=h1.1;unfold Au.wA at hb;simp only[Bool.and_eq_true,decide_eq_true_eq]at hb;have hp:=cB.ko hb.1
  have hl:rs.length<=64:=by
   have h2:=h1.2;unfold Au.m_ at h2;by_cases h3:64<rs.length
   ·rw[if_pos h3]at h2;omega
   ·omega
  obtain⟨zn,rfl⟩:∃zn:Nat,z=(zn:Int):=⟨z.toNat,by omega⟩;refine(zE he.au zn N T A n c rs hn hr ho h0 hb.1 zo).mono ?_;rintro e w' ⟨B,mb,tb,rm,Om,Ot,K,rfl,hs⟩;exact .inr ⟨B,mb,tb,rm,zn,rfl,⟨by show 1<=zn;omega,by show zn<=4096;omega,hb.2,hT⟩,Lw.P_ hs⟩
 ·refine(OQ he.au z N T hz A n c rs hn hr ho h0).mono ?_;rintro e w' ⟨rfl,hw⟩;exact .inl ⟨_,by simpa using h0,rfl,hw⟩
theorem qy{W:World}{A:Option Addr}{n c:Nat}{rs:List R}(hr:gK W W.heap.size (.slice A n c) rs):rs.length=n/\n<=c/\c<=9223372036854775807/\gK W W.heap.size (.slice A (min n 70) c) (rs.take (min n 70))/\(rs.take (min n 70)).length=min n 70:=by
 obtain⟨A',c',e,h1,h2⟩:=hr.len;injection e with e1 e2 e3;subst e1;subst e2;subst e3;exact⟨rfl,h1,by unfold maxLen at h2;omega,hr.front _ zo,by rw[List.length_take];omega⟩
theorem MM:(Tryz.prog.info? 36).map (λi=>(i.zero,i.size,i.bytes))=some (some (.pointer none),1,8):=zk
def zN(S:Sh)(rs:List Rn)(m:Nat):Bool:=(rs.take m).any λr=>!r.en && !dS S r
def qH(rs:List Rn)(m:Nat):Bool:=(rs.take m).any λr=>!r.en
theorem eK{S:Sh}{rs:List Rn}{m:Nat}{r:Rn}(h:rs[m]? = some r):zN S rs (m+1)=(zN S rs m||(!r.en && !dS S r)):=by
 unfold zN;rw[List.take_add_one,h];simp
theorem dD{rs:List Rn}{m:Nat}{r:Rn}(h:rs[m]? = some r):qH rs (m+1)=(qH rs m || !r.en):=by
 unfold qH;rw[List.take_add_one,h];simp
theorem MN{C:Cf}{S:Sh}{rs:List Rn}(H:WI C S rs)(hE:∀r∈rs,En r)(h:qH rs rs.length=true):zN S rs rs.length=true:=by
 unfold qH at h;unfold zN;rw[List.take_length]at h ⊢;obtain⟨r,hr,he⟩:=List.any_eq_true.1 h;obtain⟨k,hk⟩:=List.mem_iff_getElem?.1 hr
 have hd:r.at_ ≠ .done:=λe=>by rw[(hE r hr).2 e]at he;cases he
 obtain⟨j,x,h1,h2,h3⟩:=H.waits hk hd;have hx:=List.mem_of_getElem? h1;refine List.any_eq_true.2 ⟨x,hx,?_⟩
 have iS:x.en=false:=by
  cases e:x.en with
  | false=>rfl
  | true=>exact absurd ((hE x hx).1 e) h2
 rw[iS,h3];rfl
theorem vI(z N:Int)(T:Nat->Int)(A:Option Addr)(n c:Nat)(rl:List R)(A2:Option Addr)(n2 c2:Nat)(xs:List Ov)(A3:Option Addr)(n3 c3:Nat)(ps:List UInt8)(w:World)(he:wB w)(hc:(-9223372036854775808<=z/\z<=9223372036854775807)/\(-9223372036854775808<=N/\N<=9223372036854775807)/\∀i,-9223372036854775808<=T i/\T i<=9223372036854775807)(hr:gK w w.heap.size (.slice A n c) rl/\∀r∈rl,r.Ok)(hx:xs.length=n2/\Qb w w.heap.size (.slice A2 n2 c2) xs/\∀x∈xs,x.Ok)(hp:bI w w.heap.size A3 n3 ps)(hp1:n3<=c3)(hp2:c3<=maxLen):Calls Tryz.prog 4 #[.agg (Au.iT z N T),.slice A n c,.slice A2 n2 c2,.slice A3 n3 c3] w λe w'=>e = .returned (.bool true)/\Below w.heap.size w w':=by
 have HX:=hid (aF.box w (Au.iT z N T) 24);have HB:=hid (ae w (.cells (Au.iT z N T) 24));have HE:=hid he;have HC:=hid hc;have HR:=hid hr;have XB:=hid hx;have HP:Hid (bI w w.heap.size A3 n3 ps/\n3<=c3/\c3<=maxLen):=⟨hp,hp1,hp2⟩;obtain⟨hn,hnc,hcm,-,-⟩:=qy hr.1;have Za:=hid (Er z N T);clear he hc hr hx hp hp1 hp2;go_in;go_wp2_with (refine wpList_load_row rfl 24 (.tmp 4) rfl w.heap.size rfl _ (Au.iT z N T) _ _ HX.out Tryz.underlying24 rfl pe ?_);refine(Za.out _).mono ?_;rintro e w1 ⟨rfl,hb⟩;have dF:=hid (HB.out.trans (hb.mono HB.out.size));have CA:=hid (HX.out.next hb);clear hb HX HB Za;go_wp2_with fail;refine(Pp A n c hnc hcm _).mono ?_;rintro e w2 ⟨rfl,hb⟩;have dG:=hid (dF.out.trans (hb.mono dF.out.size));have p_:=hid (CA.out.next hb);clear hb dF CA;go_wp2_with fail;have XC:=hid (Pr (HE.out.below dG.out) (zL z) N T (by have:=HC.out.1;unfold zL;split <;> omega) HC.out.2.2 A (min n 70) c (rl.take (min n 70)) (qy HR.out.1).2.2.2.2 ((qy HR.out.1).2.2.2.1.below dG.out) (λr hr=>HR.out.2 r (List.mem_of_mem_take hr)));refine(XC.out).mono ?_;rintro e w3 (⟨x,hx0,rfl,hb⟩ | ⟨B,mb,tb,rm,zn,rfl,Zb,Cq⟩)
 ·have hx1:(x != 0)=true:=by rw[bne,hx0];rfl
  have fF:=hid (dG.out.trans (hb.mono dG.out.size));clear hb dG XC;go_wp2_with fail;refine(nV _ (HE.out.below fF.out)).mono ?_;rintro e w4 ⟨rfl,hb⟩;have rL:=hid (fF.out.trans (hb.mono fF.out.size));clear hb;go_wp2_with fail;go_ret;exact⟨rfl,rL.out⟩
 have XD:=hid Zb;have U_:=hid Cq;clear Zb Cq XC;obtain⟨bb,hbb⟩:∃x,x=bs w2 ⟨zn,N,T⟩ B mb tb rm:=⟨_,rfl⟩
 have CE:Hid (bb.B=B/\bb.C=⟨zn,N,T⟩/\bb.w0=w2):=by show _/\_;rw[hbb];exact⟨rfl,rfl,rfl⟩
 rw[← hbb]at U_;clear hbb
 have SI:Hid (wB bb.w0):=by show wB _;rw[CE.out.2.2];exact HE.out.below dG.out
 have R4:Hid (Iw bb.C):=by show Iw _;rw[CE.out.2.1];exact XD.out
 obtain⟨s0,hs0⟩:∃x,oC zn (rl.take (min n 70))=x:=⟨_,rfl⟩
 have HWI:Hid (WI bb.C s0 []):=by show WI _ _ _;rw[CE.out.2.1,← hs0];exact R9 XD.out _
 have M7:Hid (Rm 100000 s0):=hs0▸R_ _ _
 have tq:Hid (Below w.heap.size w bb.w0):=by show Below _ _ _;rw[CE.out.2.2];exact dG.out
 rw[hs0]at U_;have HPB:Hid (cB.bN (bb.C.n:Int)=true):=U_.out.ok.2.2;obtain⟨hxl,Zc,hxk⟩:=XB.out
 have hxc:n2<=c2/\c2<=9223372036854775807:=by
  obtain⟨A',c',e,h1,h2,_⟩:=Zc;injection e with _ _ e;subst e;exact⟨by omega,h2⟩
 obtain⟨aak,aal⟩:=hxc;have Zd:=hid hxl;clear hs0 hn hnc hcm hxl Zc hxk dG XD;rw[show B=bb.B from CE.out.1.symm];go_wp2_with fail;go_loopw [11,12] (λl vi wr=>∃(gs:List Nat) (rs:List Rn) (Ar:Option Addr) (cr:Nat),l = .slice Ar gs.length cr/\vi = .int .i64 (gs.length:Int)/\gs.length<=n2/\gs.length<=20/\Hid (Lp bb s0 gs rs Ar cr wr/\∀r∈rs,En r)) (λ_ vi _=>20 - (RowKit.intOf vi).toNat)
 case atStart=>exact⟨[],[],_,0,rfl,rfl,Nat.zero_le _,Nat.zero_le _,(show Hid _ from⟨Lp.none U_.out HWI.out,λr hr=>absurd hr List.not_mem_nil⟩)⟩
 case round =>
  obtain⟨gs,rs,Ar,cr,rfl,rfl,hk,XE,HL⟩:=hrel;have hcap:=HL.out.1.cap;obtain⟨Ze,hcap2⟩:=hcap
  obtain⟨hlt,E5⟩ | hout:(gs.length<n2/\gs.length<20)\/(¬gs.length<n2\/gs.length<n2/\¬gs.length<20):=zo
  ·obtain⟨x,hx⟩:∃x,xs[gs.length]? = some x:=⟨_,List.getElem?_eq_getElem (by have:=Zd.out;omega)⟩;have hmem:=List.mem_of_getElem? hx;have Zf:=hid (XB.out.2.2 x hmem)
   obtain⟨bo,off,rfl,hbo,hcells,Zg⟩:∃bo off,A2=some ⟨bo,off,none⟩/\bo<w.heap.size/\(∀(j:Nat) (u:Value),(M_ x)[j]? = some u->w.cell? ⟨bo,off+(gs.length*4+j),none⟩=some u)/\bI w w.heap.size x.A x.l x.bs:=by
    obtain⟨A',c',e,h1,h2,h3,h4⟩:=XB.out.2.1;injection e with e _ _;subst e;obtain⟨bo,off,e1,e2,e3⟩:=h3 (by have:=Zd.out;omega);exact⟨bo,off,e1,e2,λj u hu=>e3 _ x hx j u hu,h4 x hmem⟩
   have UA:=hid Zg;have Uq:∀j u,(M_ x)[j]? = some u->wr.cell? ⟨bo,off+(gs.length*4+j),none⟩=some u:=λj u hu=>(HL.out.1.lw.az.cell (p:=⟨bo,off+(gs.length*4+j),none⟩) (by have:=tq.out.size;show bo<_;omega)).trans ((tq.out.cell (p:=⟨bo,off+(gs.length*4+j),none⟩) hbo).trans (hcells j u hu));have q0:wr.cell? ⟨bo,off+gs.length*4,none⟩=some (.int .i64 x.kd):=Uq 0 _ rfl;have q1:wr.cell? ⟨bo,off+gs.length*4+1,none⟩=some (.int .i64 x.n):=Uq 1 _ rfl;have q2:wr.cell? ⟨bo,off+gs.length*4+2,none⟩=some (.slice x.A x.l x.c):=Uq 2 _ rfl;have q3:wr.cell? ⟨bo,off+gs.length*4+3,none⟩=some (.string x.s):=Uq 3 _ rfl;clear hcells Uq Zg hmem hx;have Zh:=hid (Im x Zf.out);go_wp2_with fail;refine(Zh.out _).mono ?_;rintro e w5 ⟨rfl,hb⟩;have Ps:Hid (Lp bb s0 gs rs Ar cr w5/\∀r∈rs,En r):=⟨HL.out.1.next hb,HL.out.2⟩;unfold M_ I7;clear hb q0 q1 q2 q3 HL Zh;have UR:Hid (bI w5 w5.heap.size (bX x).A (bX x).l (bX x).bs):=((((D9 UA.out).below tq.out).more tq.out.size).below Ps.out.1.lw.az).more Ps.out.1.lw.size;have U':=hid (Il Zf.out);go_wp2_with fail;refine(Ps.out.1.lw.iL (gs.length:Int) 0 zo (bX x).n (bX x).A (bX x).l (bX x).c (bX x).s (bX x).kd SI.out.eb (bX x).bs UR.out U'.out.l U'.out.c U'.out.s).mono ?_;rintro e w6 ⟨g,rfl,hl,ho⟩;have Zi:=hid hl;have Ht:Hid (w6.ownsRow 0 36 1 (.slice Ar gs.length cr) gs.length (gs.map ptr)):=bf Ps.out.1.row λg e=>ho.block g (Ps.out.1.lw.xx g e).2 λh=>h.2 e;have Dw:Hid (WI bb.C s0 rs/\(∀r∈rs,En r)/\rs.length=gs.length):=⟨Ps.out.1.wi,Ps.out.2,Ps.out.1.lw.ln.symm⟩;clear hl ho UR Ps;go_wp2_with (at_builtin;refine jP (gs.length+1) rfl (.tmp 41) (.tmp 50) 35 36 rfl Tryz.underlying35 (.pointer none) 1 8 MM rfl zo zo _ gs.length (gs.map ptr) rfl Ht.out [ptr g] rfl (λu hu=>by rw[List.mem_singleton.1 hu];rfl) rfl rfl zo ?_;intro A' c' w7 hown zS hfr);have iI:=RJ R4.out HPB.out s0 (gs.length:Int) 0 (bX x).kd (bX x).n (bX x).bs (bX x).s.data.toList ⟨by omega,by omega⟩ U'.out.n
   have HL7:Hid (Lp bb s0 (gs++[g]) (rs++[sZ bb.C (gs.length:Int) 0 (bX x).kd (bX x).n (bX x).bs (bX x).s.data.toList]) A' c' w7/\∀r∈rs++[sZ bb.C (gs.length:Int) 0 (bX x).kd (bX x).n (bX x).bs (bX x).s.data.toList],En r) :=
    ⟨Lp.push rfl Zi.out (Dw.out.1.add iI.1 (by rw[iI.2.1,Dw.out.2.2]) iI.2.2.1 iI.2.2.2) zS.out hfr.out hown.out,λr hr=>by
     rcases List.mem_append.1 hr with hr | hr
     ·exact Dw.out.2.1 r hr
     ·rw[List.mem_singleton.1 hr];exact R8 ..⟩
   clear iI hown zS hfr Zi Ht Dw;go_roundw
   case rel=>exact⟨gs++[g],_,A',c',by rw[List.length_append];rfl,by rw[List.length_append];go_num,by rw[List.length_append];simp;omega,by rw[List.length_append];simp;omega,HL7⟩
   case measure=>simp[RowKit.intOf];omega
  ·rcases hout with hlt | ⟨hlt,E5⟩
   all_goals (
    have HGL:Hid (gs.length<=20):=XE
    go_wp2_with fail
    go_loopw [13] (λvi wr=>∃(k:Nat) (S:Sh) (Qn:List Rn),vi = .int .i64 (k:Int)/\k<=n3/\k<=600/\Hid (Lp bb S gs Qn Ar cr wr/\(∀r∈Qn,En r)/\Rm (12*(600 - k)+1000) S)) (λvi _=>600 - (RowKit.intOf vi).toNat)
    case atStart=>exact⟨0,s0,rs,rfl,Nat.zero_le _,Nat.zero_le _,(show Hid _ from⟨HL.out.1,HL.out.2,M7.out.mono zo⟩)⟩
    case round =>
     obtain⟨k,S,Qn,rfl,SZ,hk6,HS⟩:=hrel
     by_cases h3:k<n3
     ·by_cases h6:k<600
      ·by_cases h0:0<gs.length
       ·obtain⟨bp,op,rfl,cz,hpc⟩:=HP.out.1.at_ zo
        have hpl:=HP.out.2
        have aam:c3<=9223372036854775807:=hpl.2
        have p0:wr.cell? ⟨bp,op+k,none⟩=some (.int .u8 (aJ ps k:Int)):=(HS.out.1.lw.az.cell (p:=⟨bp,op+k,none⟩) (by have:=tq.out.size;show bp<_;omega)).trans ((tq.out.cell (p:=⟨bp,op+k,none⟩) cz).trans (hpc k h3))
        obtain⟨j,hj⟩:∃j,aJ ps k % gs.length=j:=⟨_,rfl⟩
        have hjl:j<gs.length:=by rw[← hj];exact Nat.mod_lt _ h0
        have Zj:Hid (∀W,Calls Tryz.prog 13 #[.int .u8 (aJ ps k:Int),.int .i64 (gs.length:Int)] W λe w'=>e = .returned (.int .i64 (j:Int))/\Below W.heap.size W w'):=λW=>hj▸MK (aJ ps k) gs.length (dB ps k) h0 HGL.out W
        obtain⟨g,hg⟩:∃g,gs[j]? = some g:=⟨_,List.getElem?_eq_getElem hjl⟩
        obtain⟨r,hr⟩:=HS.out.1.lw.run hg
        have HG:=hid hg
        have Ur:=hid hr
        obtain⟨bx,rfl,-,-,hcx⟩:=HS.out.1.at_ hg
        clear hpc hj hg hr hpl
        go_wp2_with fail
        go_at_call 13
        refine(Zj.out _).mono ?_
        rintro e w5 ⟨rfl,hb⟩
        have MO:Hid (Lp bb S gs Qn (some ⟨bx,0,none⟩) cr w5/\(∀r∈Qn,En r)/\Rm (12*(600 - k)+1000) S):=⟨HS.out.1.next hb,HS.out.2⟩
        have hcy:w5.cell? ⟨bx,j,none⟩=some (ptr g):=by
         obtain⟨x,e,-,-,h⟩:=MO.out.1.at_ HG.out
         injection e with e
         injection e with e _ _
         subst e
         exact h
        clear hb p0 Zj hcx HS
        go_wp2_with fail
        have Re:=MO.out.1.wi.ri j r Ur.out
        have Kw:=hid (MO.out.1.lw.stepOf HG.out Ur.out (Up SI.out.eb.pg r.at_) (MO.out.2.2.mono zo) (Re.fit R4.out) SI.out.eb.pg)
        clear Re
        go_at_call 14
        refine Kw.out.mono ?_
        rintro e w6 ⟨rfl,hl,ho⟩
        have Us:Hid (Lp bb (Lf bb.C S r).1 gs (Qn.set j (Lf bb.C S r).2) (some ⟨bx,0,none⟩) cr w6/\(∀x∈Qn.set j (Lf bb.C S r).2,En x)/\Rm (12*(600 - (k+1))+1000) (Lf bb.C S r).1) :=
         ⟨MO.out.1.put hl (MO.out.1.wi.step Ur.out (by have:=MO.out.2.2.w;omega)) ho,λx hx=>by
          rcases List.mem_or_eq_of_mem_set hx with hx | rfl
          ·exact MO.out.2.1 x hx
          ·exact Pq (MO.out.2.1 r (List.mem_of_getElem? Ur.out)),Rm.step (n:=12*(600 - (k+1))+1000) (MO.out.2.2.mono zo)⟩
        clear hl ho Kw MO hcy Ur HG
        generalize (Lf bb.C S r).1=S2 at *
        generalize Qn.set j (Lf bb.C S r).2=rs3 at *
        go_wp2_with fail
        go_loopw [14,15,16] (λvc vl vm wr=>∃m:Nat,vc = .bool (zN S2 rs3 m)/\vl = .bool (qH rs3 m)/\vm = .int .i64 (m:Int)/\m<=gs.length/\Hid (Lp bb S2 gs rs3 (some ⟨bx,0,none⟩) cr wr)) (λ_ _ vm _=>gs.length - (RowKit.intOf vm).toNat)
        case atStart=>exact⟨0,rfl,rfl,rfl,Nat.zero_le _,(show Hid _ from Us.out.1)⟩
        case round =>
         obtain⟨m,rfl,rfl,rfl,hm,HI⟩:=hrel
         by_cases hlm:m<gs.length
         ·obtain⟨g3,JY⟩:∃g,gs[m]? = some g:=⟨_,List.getElem?_eq_getElem hlm⟩
          obtain⟨r3,hr3⟩:=HI.out.lw.run JY
          have MU:=hid JY
          have iX:=hid hr3
          have y0:wr.cell? ⟨bx,m,none⟩=some (ptr g3):=by
           obtain⟨x,e,-,-,h⟩:=HI.out.at_ JY
           injection e with e
           injection e with e _ _
           subst e
           exact h
          have HD:=hid (HI.out.lw.done JY hr3)
          clear JY hr3
          cases hcv:zN S2 rs3 m
          ·cases hlv:qH rs3 m
           ·cases iS:r3.en
            ·cases hbk:dS S2 r3
             ·have qI:eU r3 = .tuple #[.agg (ou 0 0 0),.bool false]:=by unfold eU;rw[iS];rfl
              rw[qI]at HD
              clear qI
              go_wp2_with fail
              go_at_call 17
              refine HD.out.mono ?_
              rintro e w7 ⟨rfl,hb⟩
              have ni:=hid (HI.out.next (hb.trans ((ae w7 (.cells (ou 0 0 0) 49)).mono hb.size)))
              have y1:(w7.alloc (.cells #[.int .i64 0,.int .i64 0,.int .i64 0] 49)).cell? ⟨bx,m,none⟩=some (ptr g3):=by
               obtain⟨x,e,-,-,h⟩:=ni.out.at_ MU.out
               injection e with e
               injection e with e _ _
               subst e
               exact h
              have pE:=hid (ni.out.lw.blocked MU.out iX.out)
              rw[hbk]at pE
              clear hb HD HI
              go_wp2_with fail
              go_at_call 18
              refine pE.out.mono ?_
              rintro e w8 ⟨rfl,MP,MQ⟩
              have Sa:=hid (ni.out.put MP ni.out.wi MQ)
              clear MP MQ pE y1 ni
              go_wp2_with fail
              go_roundw
              case rel=>exact⟨m+1,by rw[eK iX.out,hcv,iS,hbk];rfl,by rw[dD iX.out,hlv,iS];rfl,by go_num,by omega,Sa⟩
              case measure=>simp[RowKit.intOf];omega
             ·have qI:eU r3 = .tuple #[.agg (ou 0 0 0),.bool false]:=by unfold eU;rw[iS];rfl
              rw[qI]at HD
              clear qI
              go_wp2_with fail
              go_at_call 17
              refine HD.out.mono ?_
              rintro e w7 ⟨rfl,hb⟩
              have ni:=hid (HI.out.next (hb.trans ((ae w7 (.cells (ou 0 0 0) 49)).mono hb.size)))
              have y1:(w7.alloc (.cells #[.int .i64 0,.int .i64 0,.int .i64 0] 49)).cell? ⟨bx,m,none⟩=some (ptr g3):=by
               obtain⟨x,e,-,-,h⟩:=ni.out.at_ MU.out
               injection e with e
               injection e with e _ _
               subst e
               exact h
              have pE:=hid (ni.out.lw.blocked MU.out iX.out)
              rw[hbk]at pE
              clear hb HD HI
              go_wp2_with fail
              go_at_call 18
              refine pE.out.mono ?_
              rintro e w8 ⟨rfl,MP,MQ⟩
              have Sa:=hid (ni.out.put MP ni.out.wi MQ)
              clear MP MQ pE y1 ni
              go_wp2_with fail
              go_roundw
              case rel=>exact⟨m+1,by rw[eK iX.out,hcv,iS,hbk];rfl,by rw[dD iX.out,hlv,iS];rfl,by go_num,by omega,Sa⟩
              case measure=>simp[RowKit.intOf];omega
            ·have qI:eU r3 = .tuple #[.agg (ou r3.e r3.v r3.n),.bool true]:=by unfold eU;rw[iS];rfl
             rw[qI]at HD
             clear qI
             go_wp2_with fail
             go_at_call 17
             refine HD.out.mono ?_
             rintro e w7 ⟨rfl,hb⟩
             have ni:=hid (HI.out.next (hb.trans ((ae w7 (.cells (ou r3.e r3.v r3.n) 49)).mono hb.size)))
             clear hb HD HI
             go_wp2_with fail
             go_roundw
             case rel=>exact⟨m+1,by rw[eK iX.out,hcv,iS];rfl,by rw[dD iX.out,hlv,iS];rfl,by go_num,by omega,ni⟩
             case measure=>simp[RowKit.intOf];omega
           ·cases iS:r3.en
            ·cases hbk:dS S2 r3
             ·have qI:eU r3 = .tuple #[.agg (ou 0 0 0),.bool false]:=by unfold eU;rw[iS];rfl
              rw[qI]at HD
              clear qI
              go_wp2_with fail
              go_at_call 17
              refine HD.out.mono ?_
              rintro e w7 ⟨rfl,hb⟩
              have ni:=hid (HI.out.next (hb.trans ((ae w7 (.cells (ou 0 0 0) 49)).mono hb.size)))
              have y1:(w7.alloc (.cells #[.int .i64 0,.int .i64 0,.int .i64 0] 49)).cell? ⟨bx,m,none⟩=some (ptr g3):=by
               obtain⟨x,e,-,-,h⟩:=ni.out.at_ MU.out
               injection e with e
               injection e with e _ _
               subst e
               exact h
              have pE:=hid (ni.out.lw.blocked MU.out iX.out)
              rw[hbk]at pE
              clear hb HD HI
              go_wp2_with fail
              go_at_call 18
              refine pE.out.mono ?_
              rintro e w8 ⟨rfl,MP,MQ⟩
              have Sa:=hid (ni.out.put MP ni.out.wi MQ)
              clear MP MQ pE y1 ni
              go_wp2_with fail
              go_roundw
              case rel=>exact⟨m+1,by rw[eK iX.out,hcv,iS,hbk];rfl,by rw[dD iX.out,hlv,iS];rfl,by go_num,by omega,Sa⟩
              case measure=>simp[RowKit.intOf];omega
             ·have qI:eU r3 = .tuple #[.agg (ou 0 0 0),.bool false]:=by unfold eU;rw[iS];rfl
              rw[qI]at HD
              clear qI
              go_wp2_with fail
              go_at_call 17
              refine HD.out.mono ?_
              rintro e w7 ⟨rfl,hb⟩
              have ni:=hid (HI.out.next (hb.trans ((ae w7 (.cells (ou 0 0 0) 49)).mono hb.size)))
              have y1:(w7.alloc (.cells #[.int .i64 0,.int .i64 0,.int .i64 0] 49)).cell? ⟨bx,m,none⟩=some (ptr g3):=by
               obtain⟨x,e,-,-,h⟩:=ni.out.at_ MU.out
               injection e with e
               injection e with e _ _
               subst e
               exact h
              have pE:=hid (ni.out.lw.blocked MU.out iX.out)
              rw[hbk]at pE
              clear hb HD HI
              go_wp2_with fail
              go_at_call 18
              refine pE.out.mono ?_
              rintro e w8 ⟨rfl,MP,MQ⟩
              have Sa:=hid (ni.out.put MP ni.out.wi MQ)
              clear MP MQ pE y1 ni
              go_wp2_with fail
              go_roundw
              case rel=>exact⟨m+1,by rw[eK iX.out,hcv,iS,hbk];rfl,by rw[dD iX.out,hlv,iS];rfl,by go_num,by omega,Sa⟩
              case measure=>simp[RowKit.intOf];omega
            ·have qI:eU r3 = .tuple #[.agg (ou r3.e r3.v r3.n),.bool true]:=by unfold eU;rw[iS];rfl
             rw[qI]at HD
             clear qI
             go_wp2_with fail
             go_at_call 17
             refine HD.out.mono ?_
             rintro e w7 ⟨rfl,hb⟩
             have ni:=hid (HI.out.next (hb.trans ((ae w7 (.cells (ou r3.e r3.v r3.n) 49)).mono hb.size)))
             clear hb HD HI
             go_wp2_with fail
             go_roundw
             case rel=>exact⟨m+1,by rw[eK iX.out,hcv,iS];rfl,by rw[dD iX.out,hlv,iS];rfl,by go_num,by omega,ni⟩
             case measure=>simp[RowKit.intOf];omega
          ·cases hlv:qH rs3 m
           ·cases iS:r3.en
            ·have qI:eU r3 = .tuple #[.agg (ou 0 0 0),.bool false]:=by unfold eU;rw[iS];rfl
             rw[qI]at HD
             clear qI
             go_wp2_with fail
             go_at_call 17
             refine HD.out.mono ?_
             rintro e w7 ⟨rfl,hb⟩
             have ni:=hid (HI.out.next (hb.trans ((ae w7 (.cells (ou 0 0 0) 49)).mono hb.size)))
             clear hb HD HI
             go_wp2_with fail
             go_roundw
             case rel=>exact⟨m+1,by rw[eK iX.out,hcv,iS];rfl,by rw[dD iX.out,hlv,iS];rfl,by go_num,by omega,ni⟩
             case measure=>simp[RowKit.intOf];omega
            ·have qI:eU r3 = .tuple #[.agg (ou r3.e r3.v r3.n),.bool true]:=by unfold eU;rw[iS];rfl
             rw[qI]at HD
             clear qI
             go_wp2_with fail
             go_at_call 17
             refine HD.out.mono ?_
             rintro e w7 ⟨rfl,hb⟩
             have ni:=hid (HI.out.next (hb.trans ((ae w7 (.cells (ou r3.e r3.v r3.n) 49)).mono hb.size)))
             clear hb HD HI
             go_wp2_with fail
             go_roundw
             case rel=>exact⟨m+1,by rw[eK iX.out,hcv,iS];rfl,by rw[dD iX.out,hlv,iS];rfl,by go_num,by omega,ni⟩
             case measure=>simp[RowKit.intOf];omega
           ·cases iS:r3.en
            ·have qI:eU r3 = .tuple #[.agg (ou 0 0 0),.bool false]:=by unfold eU;rw[iS];rfl
             rw[qI]at HD
             clear qI
             go_wp2_with fail
             go_at_call 17
             refine HD.out.mono ?_
             rintro e w7 ⟨rfl,hb⟩
             have ni:=hid (HI.out.next (hb.trans ((ae w7 (.cells (ou 0 0 0) 49)).mono hb.size)))
             clear hb HD HI
             go_wp2_with fail
             go_roundw
             case rel=>exact⟨m+1,by rw[eK iX.out,hcv,iS];rfl,by rw[dD iX.out,hlv,iS];rfl,by go_num,by omega,ni⟩
             case measure=>simp[RowKit.intOf];omega
            ·have qI:eU r3 = .tuple #[.agg (ou r3.e r3.v r3.n),.bool true]:=by unfold eU;rw[iS];rfl
             rw[qI]at HD
             clear qI
             go_wp2_with fail
             go_at_call 17
             refine HD.out.mono ?_
             rintro e w7 ⟨rfl,hb⟩
             have ni:=hid (HI.out.next (hb.trans ((ae w7 (.cells (ou r3.e r3.v r3.n) 49)).mono hb.size)))
             clear hb HD HI
             go_wp2_with fail
             go_roundw
             case rel=>exact⟨m+1,by rw[eK iX.out,hcv,iS];rfl,by rw[dD iX.out,hlv,iS];rfl,by go_num,by omega,ni⟩
             case measure=>simp[RowKit.intOf];omega
         ·obtain rfl:m=gs.length:=zo
          cases hlv:qH rs3 gs.length
          ·cases hcv:zN S2 rs3 gs.length
           ·go_wp2_with fail
            go_roundw
            case rel=>exact⟨k+1,S2,rs3,by go_num,by omega,by omega,(show Hid _ from⟨HI.out,Us.out.2⟩)⟩
            case measure=>simp[RowKit.intOf];omega
           ·go_wp2_with fail
            go_roundw
            case rel=>exact⟨k+1,S2,rs3,by go_num,by omega,by omega,(show Hid _ from⟨HI.out,Us.out.2⟩)⟩
            case measure=>simp[RowKit.intOf];omega
          ·have hcv:zN S2 rs3 gs.length=true:=by
            have h:=MN HI.out.wi Us.out.2.1 (by rw[← HI.out.lw.ln];exact hlv)
            rw[← HI.out.lw.ln]at h
            exact h
           go_wp2_with fail
           go_roundw
           case rel=>exact⟨k+1,S2,rs3,by go_num,by omega,by omega,(show Hid _ from⟨HI.out,Us.out.2⟩)⟩
           case measure=>simp[RowKit.intOf];omega
       ·first
        | (exfalso;omega)
        | (
         go_wp2_with fail
         go_at_call 10
         refine(nV _ (SI.out.below HS.out.1.lw.az)).mono ?_
         rintro e w9 ⟨rfl,hb⟩
         have HF:Hid (Below w.heap.size w w9):=tq.out.trans ((HS.out.1.lw.az.trans (hb.mono HS.out.1.lw.size)).mono tq.out.size)
         clear hb
         go_wp2_with fail
         go_ret
         exact⟨rfl,HF.out⟩)
      ·go_wp2_with fail
       go_at_call 10
       refine(nV _ (SI.out.below HS.out.1.lw.az)).mono ?_
       rintro e w9 ⟨rfl,hb⟩
       have HF:Hid (Below w.heap.size w w9):=tq.out.trans ((HS.out.1.lw.az.trans (hb.mono HS.out.1.lw.size)).mono tq.out.size)
       clear hb
       go_wp2_with fail
       go_ret
       exact⟨rfl,HF.out⟩
     ·go_wp2_with fail
      go_at_call 10
      refine(nV _ (SI.out.below HS.out.1.lw.az)).mono ?_
      rintro e w9 ⟨rfl,hb⟩
      have HF:Hid (Below w.heap.size w w9):=tq.out.trans ((HS.out.1.lw.az.trans (hb.mono HS.out.1.lw.size)).mono tq.out.size)
      clear hb
      go_wp2_with fail
      go_ret
      exact⟨rfl,HF.out⟩)
end Pg
end Go.Proofs.YtbhnbcadgmagpaaGreatDoor
