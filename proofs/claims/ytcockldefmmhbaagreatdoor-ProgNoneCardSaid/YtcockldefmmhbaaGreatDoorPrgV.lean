import Derived.Test.YtcockldefmmhbaaGreatDoorSq
import Derived.Test.YtcockldefmmhbaaGreatDoorJ48
import Derived.Test.YtcockldefmmhbaaGreatDoorJ49
import Derived.Test.YtcockldefmmhbaaGreatDoorJ47
import Derived.Test.YtcockldefmmhbaaGreatDoorJ43
import Derived.Test.YtcockldefmmhbaaGreatDoorJ44
import Derived.Deep.MidRow
set_option linter.unusedVariables false
set_option linter.unusedSimpArgs false
set_option maxRecDepth 100000
namespace Go.Proofs.YtcockldefmmhbaaGreatDoor
open Go.ChangeShapes Go.WideShapes Go.ChangeAt Go.RowKit Go.Mtl Go.Lib
namespace Pg
open MemM (Ms lookV loadS swapB swapS holdV lockB lockS unlockS touchS moreS)
open RulM (R)
open AutM (Ke)
open Me (ptr)
open Tb (TAt TM Fw)
theorem cfg_size (z N:Int) (T:Nat->Int):(Tryz.prog.info? 24).map (·.size)=some (Au.cfc z N T).size:=(by kernel_rfl:(Tryz.prog.info? 24).map (·.size)=some 18)
theorem rmap_new (W:World) (K:Nat->Prop):RMap (W.alloc (.map #[] 0)) K W.heap.size fun _=>[] :=
 ⟨#[],0,MapKept.heap_alloc W _ |>.1,fun e h=>by simp at h,by simp,fun _ _=>rfl⟩
structure NA (w W:World) (n mb tb rm:Nat) (Om Ot K:Nat->Prop) (ms:Ms) (rl:Int->List R):Prop where
 mem:Me.MAt W Om mb ms
 tab:TAt W Ot tb mb n []
 map:RMap W K rm rl
 bel:Below w.heap.size w W
 nm:∀ j,Om j->w.heap.size<=j
 nt:∀ j,Ot j->w.heap.size<=j
 nr:w.heap.size<=rm
 dmt:∀ j,Om j->¬ Ot j
 mr : ¬ Om rm
 tr : ¬ Ot rm
 dk:∀ j,K j->¬ Om j/\¬ Ot j/\j≠rm/\j < W.heap.size
def bs (w:World) (C:Cf) (B mb tb rm:Nat):Bs:=⟨w,C,B,mb,tb,rm,0,w,fun _=>False,fun _=>False⟩
theorem NA.sr {w W:World} {C:Cf} {mb tb rm:Nat} {Om Ot K:Nat->Prop} {ms:Ms} {rl:Int->List R} (H:NA w W C.n mb tb rm Om Ot K ms rl) :
  SR (bs w C W.heap.size mb tb rm) Om Ot K (.slice none 0 0) ⟨ms,[],rl,[]⟩ (W.alloc (.cells (shc C mb tb rm (.slice none 0 0)) 83)) :=
 have hb:=below_box W (.cells (shc C mb tb rm (.slice none 0 0)) 83)
 {mem:=H.mem.next hb,tab:=H.tab.next hb,blk:=Blk.box W _ _
  map:=H.map.only (Only.of_below (O:=fun _=>False) hb) (fun e=>e) fun _ _ e=>e
  pts:=World.ownsRow_nil _ _ _ _
  bel:=H.bel.alloc H.bel.size _
  nm:=H.nm,nt:=H.nt,nb:=H.bel.size,nr:=H.nr,dmt:=H.dmt
  dm:=⟨fun e=>by have h:W.heap.size < W.heap.size:=H.mem.lt _ e;omega,H.mr⟩
  dt:=⟨fun e=>by have h:W.heap.size < W.heap.size:=H.tab.lt_ _ e;omega,H.tr⟩
  br:=fun e=>by have:=H.map.lt;have e:W.heap.size=rm:=e;omega
  dp:=fun j h=>by cases h
  dk:=fun j hj=>by
   obtain ⟨h1,h2,h3,h4⟩:=H.dk j hj
   refine ⟨fun h=>?_,by rw [World.size_alloc];omega⟩
   rcases h with h | h | h | h | h
   ·exact h1 h
   ·exact h2 h
   ·have h:j=W.heap.size:=h
    omega
   ·exact h3 h
   ·cases h }
def SlB (rs:List R) (A:Option Addr) (c:Nat) (j:Nat):Prop:=0 < rs.length/\(Value.slice A rs.length c).ownBlock=some j
theorem slb_lv {W:World} {rs:List R} {A:Option Addr} {c:Nat} (h:Rds W W.heap.size (.slice A rs.length c) rs) (ho:∀ r ∈ rs,r.Ok):Lv W (SlB rs A c) (.slice A rs.length c) rs:=⟨h,fun hn g e=>⟨hn,e⟩,ho⟩
theorem slb_at {W:World} {rs:List R} {A:Option Addr} {c:Nat} (h:Rds W W.heap.size (.slice A rs.length c) rs) {j:Nat} (hj:SlB rs A c j):∃ off,A=some ⟨j,off,none⟩/\j < W.heap.size:=by
 obtain ⟨A6,c6,e,_,_,h4⟩:=h
 obtain ⟨g,off,e2,h5,_⟩:=h4 hj.1
 injection e with e
 subst e
 subst e2
 have e3:g=j:=Option.some.inj hj.2
 subst e3
 exact ⟨off,rfl,h5⟩
theorem take_row {w:World} {g:Nat} {cs:Array Value} {t:TypeId} (H:Blk w g cs t) {ρ:Operand->Value} {o:Oper} (x:Operand) (ho:o.op = .load t x) (hx:ρ x = .pointer (some ⟨g,0,none⟩)) {d:TypeDesc} (hd:d.isRow=true) (hu:Tryz.prog.underlying t=some d) (hs:(Tryz.prog.info? t).map (·.size)=some cs.size) :
  (execOp ρ o).run Tryz.prog w = .ok (.value (.agg cs)) w:=by
 have hr:w.rangeAt g 0 cs.toList:=fun j v hv=>by rw [Nat.zero_add];exact H.cell j v (by simpa using hv)
 have h:=run_loadVar_mid (P:=Tryz.prog) w g 0 t cs.toList d hr hu hd (by simpa using hs)
 rw [Array.toArray_toList] at h
 unfold execOp
 simp only [ho,hx,Instr.loadAt,Instr.sureAddr,Sem.run_bind,Sem.run_pure,Result.andThen_ok,h]
set_option maxHeartbeats 4000000 in
theorem new_ok {w:World} (he:Au.Env w) (z:Nat) (N:Int) (T:Nat->Int) (A:Option Addr) (n c:Nat) (rs:List R) (hn:rs.length=n) (hr:Rds w w.heap.size (.slice A n c) rs) (ho:∀ r ∈ rs,r.Ok) (h0:Au.chkE z N rs=0) (hp:KeyM.isPow (z:Int)=true) (h64:n<=64) :
  Calls Tryz.prog 7 #[.agg (Au.cfc z N T),.slice A n c] w fun e w'=>∃ B mb tb rm Om Ot K,e = .returned (.tuple #[ptr B,.int .i64 0])/\SR (bs w ⟨z,N,T⟩ B mb tb rm) Om Ot K (.slice none 0 0) ⟨MemM.newS 6 ((z:Int)+1),[],setL (fun _=>[]) 0 rs,[]⟩ w':=by
 have hz:z<=4096:=by have:=KeyM.isPow_bd hp;omega
 have HX:=Lib.hid (Blk.box w (Au.cfc z N T) 24)
 have HB:=Lib.hid (below_box w (.cells (Au.cfc z N T) 24))
 have HCH:Hid (∀ W,Below w.heap.size w W->Calls Tryz.prog 31 #[.agg (Au.cfc z N T),.slice A n c] W fun e w'=>e = .returned (.int .i64 0)/\Below W.heap.size W w'):=fun W h =>
  h0 ▸ Au.check_p z N T (by omega) (he.only (O:=fun _=>False) (Only.of_below h) fun _ e=>e.elim) A n c rs hn (hr.below h) ho
 have HCL:Hid (∀ W,Below w.heap.size w W->Calls Tryz.prog 34 #[.slice A n c] W fun e w'=>∃ v,e = .returned v/\Rds w' w'.heap.size v rs/\(0 < rs.length->∀ a n c,v = .slice (some a) n c->W.heap.size<=a.block)/\Below W.heap.size W w'):=fun W h=>Au.clone_any A n c rs W hn (hr.below h) (by omega)
 have HTN:Hid (∀ W mb,Calls Tryz.prog 33 #[ptr mb,.int .i64 (z:Int)] W fun e w'=>∃ O B,e = .returned (ptr B)/\TAt w' O B mb z []/\Below W.heap.size W w'/\∀ j,O j->W.heap.size<=j):=fun W mb=>Tb.new_ok W mb z hp
 have HO:=Lib.hid ho
 clear hn hr ho h0 he hp h64
 go_enter Tryz.func7,Tryz.ntmps7
 go_wp2_with (refine wpList_load_row rfl 24 (.tmp 2) rfl w.heap.size rfl _ (Au.cfc z N T) _ _ HX.out Tryz.underlying24 rfl (cfg_size z N T) ?_)
 go_at_call 31
 refine (HCH.out _ HB.out).mono ?_
 rintro e w1 ⟨rfl,hb⟩
 have HX1:=Lib.hid (HX.out.next hb)
 have HB1:=Lib.hid (HB.out.trans (hb.mono HB.out.size))
 have hcc:=HX1.out.cell 0 _ rfl
 clear hb HX HB
 go_wp2_with fail
 go_at_call 32
 refine (Me.new_any 6 ((z:Int)+1) _).mono ?_
 rintro e w2 ⟨Om,mb,rfl,hm,hb,hO⟩
 have HM:=Lib.hid hm
 have HNM:Hid (∀ j,Om j->w.heap.size<=j):=fun j hj=>Nat.le_trans HB1.out.size (hO j hj)
 have HXX:=Lib.hid (HX1.out.next hb)
 have HBB:=Lib.hid (HB1.out.trans (hb.mono HB1.out.size))
 clear hm hb hO hcc HX1 HB1
 go_wp2_with fail
 refine wp_region_held_drew (S:=fun w'=>Blk w' w.heap.size (Au.cfc z N T) 24/\Below w.heap.size w w'/\Me.MAt w' Om mb (MemM.newS 6 ((z:Int)+1))) (by kernel_rfl) (⟨HXX.out.drew,HBB.out.drew,HM.out.next (Below.refl _ w2).drew⟩) (fun hH=>?_)
 refine zqt 0 (some 19) ?v1 rfl rfl ?c1 hH ?r1
 case c1=>(intro w' hS;refine take_row hS.1 (.tmp 2) ?_ ?_ ?_ Tryz.underlying24 (cfg_size z N T) <;> rfl)
 try simp only [Act.put,zq1,zq2,zq3]
 refine zqt 1 (some 20) ?v2 rfl rfl ?c2 hH ?r2
 case c2=>(intro w' _;go_simp;(try with_reducible rfl))
 try simp only [Act.put,zq1,zq2,zq3]
 refine zqt 2 (some 21) ?v3 rfl rfl ?c3 hH ?r3
 case c3=>(intro w' _;go_simp;(try with_reducible rfl))
 try simp only [Act.put,zq1,zq2,zq3]
 refine zqt 3 (some 22) ?v4 rfl rfl ?c4 hH ?r4
 case c4=>(intro w' _;go_simp;(try with_reducible rfl))
 try simp only [Act.put,zq1,zq2,zq3]
 refine zqt 4 (some 23) ?v5 rfl rfl ?c5 hH ?r5
 case c5=>(intro w' hS;have c0:=hS.1.cell 0 _ rfl;go_simp;(try with_reducible rfl))
 try simp only [Act.put,zq1,zq2,zq3]
 refine zqt 7 (some 26) ?v6 rfl rfl ?c6 hH ?r6
 case c6=>(intro w' _;go_simp;(try with_reducible rfl))
 try simp only [Act.put,zq1,zq2,zq3]
 refine wpAnyH_ready (rs:=[5,6]) (by kernel_rfl) (by simp) (AllReadyH.cons rfl (fun K hK=>?_) (AllReadyH.cons rfl (fun K hK=>?_) (AllReadyH.nil)))
 ·have hN:=And.intro hH.2.2.lt hH.2.1.size
  go_simp
  go_at_call 33
  refine (HTN.out _ mb).mono ?_
  rintro e wT ⟨Ot,tb,rfl,ht,hb,hO⟩
  refine hK.out _ _ (⟨hH.1.next hb,hH.2.1.trans (hb.mono hH.2.1.size),hH.2.2.next hb⟩) (fun hH=>?_)
  clear hK K
  have HT:Hid (TAt wT Ot tb mb z []):=ht
  have HMT:Hid (∀ j,Om j->¬ Ot j):=fun j h1 h2=>by have h3:=hN.1 j h1;have h4:=hO j h2;omega
  have HNT:Hid (∀ j,Ot j->w.heap.size<=j):=fun j hj=>Nat.le_trans hN.2 (hO j hj)
  clear ht hb hO hN
  try simp only [Act.put,zq1,zq2,zq3]
  refine wpAnyH_ready (rs:=[6,8]) (by kernel_rfl) (by simp) (AllReadyH.cons rfl (fun K hK=>?_) (AllReadyH.cons rfl (fun K hK=>?_) (AllReadyH.nil)))
  ·have hN:=And.intro hH.2.2.lt (And.intro hH.2.1.size hH.1.lt)
   have hb:=below_box wT (.map #[] 0)
   go_simp
   refine hK.out _ _ (⟨hH.1.next hb,hH.2.1.trans (hb.mono hH.2.1.size),hH.2.2.next hb⟩) (fun hH=>?_)
   clear hK K
   have HMR:Hid (¬ Om wT.heap.size):=fun e=>by have h:=hN.1 _ e;omega
   have HRW:Hid (w.heap.size<=wT.heap.size):=hN.2.1
   have HXR:Hid (w.heap.size≠wT.heap.size):=fun e=>by have h:=hN.2.2;omega
   have HTR:Hid (¬ Ot wT.heap.size):=fun e=>by have h:wT.heap.size < wT.heap.size:=HT.out.lt_ _ e;omega
   have hb:Below wT.heap.size wT ({ heap:=wT.heap.push (.map #[] 0),tape:=wT.tape,drawn:=wT.drawn,os:=wT.os,output:=wT.output }:World):=below_box wT (.map #[] 0)
   replace HT:=Lib.hid (HT.out.next hb)
   have HR:Hid (∀ K,RMap ({ heap:=wT.heap.push (.map #[] 0),tape:=wT.tape,drawn:=wT.drawn,os:=wT.os,output:=wT.output }:World) K wT.heap.size fun _=>[]):=fun K=>rmap_new wT K
   clear hb hN
   generalize ({ heap:=wT.heap.push (.map #[] 0),tape:=wT.tape,drawn:=wT.drawn,os:=wT.os,output:=wT.output }:World)=wM at *
   generalize wT.heap.size=rm at *
   try simp only [Act.put,zq1,zq2,zq3]
   refine wpAnyH_ready (rs:=[8]) (by kernel_rfl) (by simp) (AllReadyH.cons rfl (fun K hK=>?_) (AllReadyH.nil))
   have hN:=And.intro hH.2.2.lt HT.out.lt_
   have hRl:=(HR.out (fun _=>False)).lt
   go_simp
   go_at_call 34
   refine (HCL.out _ hH.2.1).mono ?_
   rintro e wC ⟨v,rfl,hrd,hown,hb⟩
   refine hK.out _ _ (⟨hH.1.next hb,hH.2.1.trans (hb.mono hH.2.1.size),hH.2.2.next hb⟩) (fun hH=>?_)
   clear hK K
   obtain ⟨A5,c5,rfl⟩:∃ A5 c5,v = .slice A5 rs.length c5:=by
    obtain ⟨A5,c5,e,_⟩:=hrd
    exact ⟨A5,c5,e⟩
   have hkb:∀ j,SlB rs A5 c5 j->(∀ i,Om i->i < j)/\(∀ i,Ot i->i < j)/\rm < j/\j < wC.heap.size:=fun j hj=>by
    obtain ⟨off,rfl,h5⟩:=slb_at hrd hj
    exact ⟨fun i hi=>Nat.lt_of_lt_of_le (hN.1 i hi) (hown hj.1 _ _ _ rfl),fun i hi=>Nat.lt_of_lt_of_le (hN.2 i hi) (hown hj.1 _ _ _ rfl),Nat.lt_of_lt_of_le hRl (hown hj.1 _ _ _ rfl),h5⟩
   have HC:Hid (Lv wC (SlB rs A5 c5) (.slice A5 rs.length c5) rs):=slb_lv hrd HO.out
   have HKL:Hid (∀ j,SlB rs A5 c5 j->j < wC.heap.size):=fun j hj=>(hkb j hj).2.2.2
   have HKM:Hid (∀ j,SlB rs A5 c5 j->¬ Om j/\¬ Ot j):=fun j hj=>⟨fun e=>Nat.lt_irrefl _ ((hkb j hj).1 j e),fun e=>Nat.lt_irrefl _ ((hkb j hj).2.1 j e)⟩
   have HKR:Hid (¬ SlB rs A5 c5 rm):=fun e=>Nat.lt_irrefl _ (hkb _ e).2.2.1
   replace HT:=Lib.hid (HT.out.next hb)
   replace HR:=Lib.hid (fun K=>(HR.out K).only (Only.of_below (O:=fun _=>False) hb) (fun e=>e) fun _ _ e=>e)
   clear hrd hown hb hkb hN hRl
   try simp only [Act.put,zq1,zq2,zq3]
   refine wpAnyH_ready (rs:=[9]) (by kernel_rfl) (by simp) (AllReadyH.cons rfl (fun K hK=>?_) (AllReadyH.nil))
   obtain ⟨wI,hrun,hmap,hoI⟩:=(HR.out (SlB rs A5 c5)).put HKR.out 0 HC.out
   have HNA:Hid (NA w wI z mb tb rm Om Ot (SlB rs A5 c5) (MemM.newS 6 ((z:Int)+1)) (setL (fun _=>[]) 0 rs)) :=
    ⟨hH.2.2.far hoI (fun j hj e=>HMR.out (e ▸ hj)),HT.out.far hoI (fun j hj e=>HTR.out (e ▸ hj)),hmap,hH.2.1.trans (hoI.below (fun j e=>e ▸ HRW.out) hH.2.1.size),HNM.out,HNT.out,HRW.out,HMT.out,HMR.out,HTR.out,fun j hj=>⟨(HKM.out j hj).1,(HKM.out j hj).2,fun e=>HKR.out (e ▸ hj),by
     obtain ⟨off,_,h5⟩:=slb_at HC.out.1 hj
     exact Nat.lt_of_lt_of_le h5 hoI.size⟩⟩
   go_simp
   refine hK.out _ _ (⟨hH.1.only hoI HXR.out,HNA.out.bel,HNA.out.mem⟩) (fun hH=>?_)
   clear hK K
   clear hrun hmap hoI HT HR HC
   try simp only [Act.put,zq1,zq2,zq3]
   refine zqt 10 (some 28) ?v7 rfl rfl ?c7 hH ?r7
   case c7=>(intro w' _;go_simp;(try with_reducible rfl))
   try simp only [Act.put,zq1,zq2,zq3]
   refine zqt 11 (some 29) ?v8 rfl rfl ?c8 hH ?r8
   case c8=>(intro w' _;go_simp;(try with_reducible rfl))
   try simp only [Act.put,zq1,zq2,zq3]
   refine wpAnyH_ready (rs:=[12]) (by kernel_rfl) (by simp) (AllReadyH.cons rfl (fun K hK=>?_) (AllReadyH.nil))
   have hb:=below_box wI (.cells (shc ⟨z,N,T⟩ mb tb rm (.slice none 0 0)) 83)
   have HSR:=Lib.hid (NA.sr (C:=⟨z,N,T⟩) HNA.out)
   go_simp
   refine hK.out _ _ (⟨hH.1.next hb,hH.2.1.trans (hb.mono hH.2.1.size),hH.2.2.next hb⟩) (fun hH=>?_)
   clear hK K
   clear hb
   try simp only [Act.put,zq1,zq2,zq3]
   refine zqt 13 (some 8) ?v9 rfl rfl ?c9 hH ?r9
   case c9=>(intro w' _;go_simp;(try with_reducible rfl))
   try simp only [Act.put,zq1,zq2,zq3]
   refine wpAnyH_done (by kernel_rfl) ?_ _
   clear hH
   go_wp2_with fail
   go_ret2
   exact ⟨_,_,_,_,_,_,_,rfl,HSR.out⟩
  ·have hN:=And.intro hH.2.2.lt HT.out.lt_
   go_simp
   go_at_call 34
   refine (HCL.out _ hH.2.1).mono ?_
   rintro e wC ⟨v,rfl,hrd,hown,hb⟩
   refine hK.out _ _ (⟨hH.1.next hb,hH.2.1.trans (hb.mono hH.2.1.size),hH.2.2.next hb⟩) (fun hH=>?_)
   clear hK K
   obtain ⟨A5,c5,rfl⟩:∃ A5 c5,v = .slice A5 rs.length c5:=by
    obtain ⟨A5,c5,e,_⟩:=hrd
    exact ⟨A5,c5,e⟩
   have hkb:∀ j,SlB rs A5 c5 j->(∀ i,Om i->i < j)/\(∀ i,Ot i->i < j)/\j < wC.heap.size:=fun j hj=>by
    obtain ⟨off,rfl,h5⟩:=slb_at hrd hj
    exact ⟨fun i hi=>Nat.lt_of_lt_of_le (hN.1 i hi) (hown hj.1 _ _ _ rfl),fun i hi=>Nat.lt_of_lt_of_le (hN.2 i hi) (hown hj.1 _ _ _ rfl),h5⟩
   have HC:Hid (Lv wC (SlB rs A5 c5) (.slice A5 rs.length c5) rs):=slb_lv hrd HO.out
   have HKL:Hid (∀ j,SlB rs A5 c5 j->j < wC.heap.size):=fun j hj=>(hkb j hj).2.2
   have HKM:Hid (∀ j,SlB rs A5 c5 j->¬ Om j/\¬ Ot j):=fun j hj=>⟨fun e=>Nat.lt_irrefl _ ((hkb j hj).1 j e),fun e=>Nat.lt_irrefl _ ((hkb j hj).2.1 j e)⟩
   replace HT:=Lib.hid (HT.out.next hb)
   clear hrd hown hb hkb hN
   try simp only [Act.put,zq1,zq2,zq3]
   refine wpAnyH_ready (rs:=[6]) (by kernel_rfl) (by simp) (AllReadyH.cons rfl (fun K hK=>?_) (AllReadyH.nil))
   have hN:=And.intro hH.2.2.lt (And.intro hH.2.1.size hH.1.lt)
   have hb:=below_box wC (.map #[] 0)
   go_simp
   refine hK.out _ _ (⟨hH.1.next hb,hH.2.1.trans (hb.mono hH.2.1.size),hH.2.2.next hb⟩) (fun hH=>?_)
   clear hK K
   have HMR:Hid (¬ Om wC.heap.size):=fun e=>by have h:=hN.1 _ e;omega
   have HRW:Hid (w.heap.size<=wC.heap.size):=hN.2.1
   have HXR:Hid (w.heap.size≠wC.heap.size):=fun e=>by have h:=hN.2.2;omega
   have HTR:Hid (¬ Ot wC.heap.size):=fun e=>by have h:wC.heap.size < wC.heap.size:=HT.out.lt_ _ e;omega
   have HKR:Hid (¬ SlB rs A5 c5 wC.heap.size):=fun e=>by have h:=HKL.out _ e;omega
   have hb:Below wC.heap.size wC ({ heap:=wC.heap.push (.map #[] 0),tape:=wC.tape,drawn:=wC.drawn,os:=wC.os,output:=wC.output }:World):=below_box wC (.map #[] 0)
   replace HT:=Lib.hid (HT.out.next hb)
   replace HC:=Lib.hid (HC.out.only (Only.of_below (O:=fun _=>False) hb) fun _ _ e=>e)
   have HR:Hid (∀ K,RMap ({ heap:=wC.heap.push (.map #[] 0),tape:=wC.tape,drawn:=wC.drawn,os:=wC.os,output:=wC.output }:World) K wC.heap.size fun _=>[]):=fun K=>rmap_new wC K
   clear hb hN
   generalize ({ heap:=wC.heap.push (.map #[] 0),tape:=wC.tape,drawn:=wC.drawn,os:=wC.os,output:=wC.output }:World)=wM at *
   generalize wC.heap.size=rm at *
   try simp only [Act.put,zq1,zq2,zq3]
   refine wpAnyH_ready (rs:=[9]) (by kernel_rfl) (by simp) (AllReadyH.cons rfl (fun K hK=>?_) (AllReadyH.nil))
   obtain ⟨wI,hrun,hmap,hoI⟩:=(HR.out (SlB rs A5 c5)).put HKR.out 0 HC.out
   have HNA:Hid (NA w wI z mb tb rm Om Ot (SlB rs A5 c5) (MemM.newS 6 ((z:Int)+1)) (setL (fun _=>[]) 0 rs)) :=
    ⟨hH.2.2.far hoI (fun j hj e=>HMR.out (e ▸ hj)),HT.out.far hoI (fun j hj e=>HTR.out (e ▸ hj)),hmap,hH.2.1.trans (hoI.below (fun j e=>e ▸ HRW.out) hH.2.1.size),HNM.out,HNT.out,HRW.out,HMT.out,HMR.out,HTR.out,fun j hj=>⟨(HKM.out j hj).1,(HKM.out j hj).2,fun e=>HKR.out (e ▸ hj),by
     obtain ⟨off,_,h5⟩:=slb_at HC.out.1 hj
     exact Nat.lt_of_lt_of_le h5 hoI.size⟩⟩
   go_simp
   refine hK.out _ _ (⟨hH.1.only hoI HXR.out,HNA.out.bel,HNA.out.mem⟩) (fun hH=>?_)
   clear hK K
   clear hrun hmap hoI HT HR HC
   try simp only [Act.put,zq1,zq2,zq3]
   refine zqt 10 (some 28) ?v10 rfl rfl ?c10 hH ?r10
   case c10=>(intro w' _;go_simp;(try with_reducible rfl))
   try simp only [Act.put,zq1,zq2,zq3]
   refine zqt 11 (some 29) ?v11 rfl rfl ?c11 hH ?r11
   case c11=>(intro w' _;go_simp;(try with_reducible rfl))
   try simp only [Act.put,zq1,zq2,zq3]
   refine wpAnyH_ready (rs:=[12]) (by kernel_rfl) (by simp) (AllReadyH.cons rfl (fun K hK=>?_) (AllReadyH.nil))
   have hb:=below_box wI (.cells (shc ⟨z,N,T⟩ mb tb rm (.slice none 0 0)) 83)
   have HSR:=Lib.hid (NA.sr (C:=⟨z,N,T⟩) HNA.out)
   go_simp
   refine hK.out _ _ (⟨hH.1.next hb,hH.2.1.trans (hb.mono hH.2.1.size),hH.2.2.next hb⟩) (fun hH=>?_)
   clear hK K
   clear hb
   try simp only [Act.put,zq1,zq2,zq3]
   refine zqt 13 (some 8) ?v12 rfl rfl ?c12 hH ?r12
   case c12=>(intro w' _;go_simp;(try with_reducible rfl))
   try simp only [Act.put,zq1,zq2,zq3]
   refine wpAnyH_done (by kernel_rfl) ?_ _
   clear hH
   go_wp2_with fail
   go_ret2
   exact ⟨_,_,_,_,_,_,_,rfl,HSR.out⟩
 ·have hN:=And.intro hH.2.2.lt (And.intro hH.2.1.size hH.1.lt)
  have hb:=below_box w2.drew (.map #[] 0)
  go_simp
  refine hK.out _ _ (⟨hH.1.next hb,hH.2.1.trans (hb.mono hH.2.1.size),hH.2.2.next hb⟩) (fun hH=>?_)
  clear hK K
  have HMR:Hid (¬ Om w2.drew.heap.size):=fun e=>by have h:=hN.1 _ e;omega
  have HRW:Hid (w.heap.size<=w2.drew.heap.size):=hN.2.1
  have HXR:Hid (w.heap.size≠w2.drew.heap.size):=fun e=>by have h:=hN.2.2;omega
  have hb:Below w2.drew.heap.size w2.drew ({ heap:=w2.drew.heap.push (.map #[] 0),tape:=w2.drew.tape,drawn:=w2.drew.drawn,os:=w2.drew.os,output:=w2.drew.output }:World):=below_box w2.drew (.map #[] 0)
  have HR:Hid (∀ K,RMap ({ heap:=w2.drew.heap.push (.map #[] 0),tape:=w2.drew.tape,drawn:=w2.drew.drawn,os:=w2.drew.os,output:=w2.drew.output }:World) K w2.drew.heap.size fun _=>[]):=fun K=>rmap_new w2.drew K
  clear hb hN
  generalize ({ heap:=w2.drew.heap.push (.map #[] 0),tape:=w2.drew.tape,drawn:=w2.drew.drawn,os:=w2.drew.os,output:=w2.drew.output }:World)=wM at *
  generalize w2.drew.heap.size=rm at *
  try simp only [Act.put,zq1,zq2,zq3]
  refine wpAnyH_ready (rs:=[5]) (by kernel_rfl) (by simp) (AllReadyH.cons rfl (fun K hK=>?_) (AllReadyH.nil))
  have hN:=And.intro hH.2.2.lt hH.2.1.size
  go_simp
  go_at_call 33
  refine (HTN.out _ mb).mono ?_
  rintro e wT ⟨Ot,tb,rfl,ht,hb,hO⟩
  refine hK.out _ _ (⟨hH.1.next hb,hH.2.1.trans (hb.mono hH.2.1.size),hH.2.2.next hb⟩) (fun hH=>?_)
  clear hK K
  have HT:Hid (TAt wT Ot tb mb z []):=ht
  have HMT:Hid (∀ j,Om j->¬ Ot j):=fun j h1 h2=>by have h3:=hN.1 j h1;have h4:=hO j h2;omega
  have HNT:Hid (∀ j,Ot j->w.heap.size<=j):=fun j hj=>Nat.le_trans hN.2 (hO j hj)
  have HTR:Hid (¬ Ot rm):=fun e=>by have h3:=(HR.out (fun _=>False)).lt;have h4:=hO _ e;omega
  replace HR:=Lib.hid (fun K=>(HR.out K).only (Only.of_below (O:=fun _=>False) hb) (fun e=>e) fun _ _ e=>e)
  clear ht hb hO hN
  try simp only [Act.put,zq1,zq2,zq3]
  refine wpAnyH_ready (rs:=[8]) (by kernel_rfl) (by simp) (AllReadyH.cons rfl (fun K hK=>?_) (AllReadyH.nil))
  have hN:=And.intro hH.2.2.lt HT.out.lt_
  have hRl:=(HR.out (fun _=>False)).lt
  go_simp
  go_at_call 34
  refine (HCL.out _ hH.2.1).mono ?_
  rintro e wC ⟨v,rfl,hrd,hown,hb⟩
  refine hK.out _ _ (⟨hH.1.next hb,hH.2.1.trans (hb.mono hH.2.1.size),hH.2.2.next hb⟩) (fun hH=>?_)
  clear hK K
  obtain ⟨A5,c5,rfl⟩:∃ A5 c5,v = .slice A5 rs.length c5:=by
   obtain ⟨A5,c5,e,_⟩:=hrd
   exact ⟨A5,c5,e⟩
  have hkb:∀ j,SlB rs A5 c5 j->(∀ i,Om i->i < j)/\(∀ i,Ot i->i < j)/\rm < j/\j < wC.heap.size:=fun j hj=>by
   obtain ⟨off,rfl,h5⟩:=slb_at hrd hj
   exact ⟨fun i hi=>Nat.lt_of_lt_of_le (hN.1 i hi) (hown hj.1 _ _ _ rfl),fun i hi=>Nat.lt_of_lt_of_le (hN.2 i hi) (hown hj.1 _ _ _ rfl),Nat.lt_of_lt_of_le hRl (hown hj.1 _ _ _ rfl),h5⟩
  have HC:Hid (Lv wC (SlB rs A5 c5) (.slice A5 rs.length c5) rs):=slb_lv hrd HO.out
  have HKL:Hid (∀ j,SlB rs A5 c5 j->j < wC.heap.size):=fun j hj=>(hkb j hj).2.2.2
  have HKM:Hid (∀ j,SlB rs A5 c5 j->¬ Om j/\¬ Ot j):=fun j hj=>⟨fun e=>Nat.lt_irrefl _ ((hkb j hj).1 j e),fun e=>Nat.lt_irrefl _ ((hkb j hj).2.1 j e)⟩
  have HKR:Hid (¬ SlB rs A5 c5 rm):=fun e=>Nat.lt_irrefl _ (hkb _ e).2.2.1
  replace HT:=Lib.hid (HT.out.next hb)
  replace HR:=Lib.hid (fun K=>(HR.out K).only (Only.of_below (O:=fun _=>False) hb) (fun e=>e) fun _ _ e=>e)
  clear hrd hown hb hkb hN hRl
  try simp only [Act.put,zq1,zq2,zq3]
  refine wpAnyH_ready (rs:=[9]) (by kernel_rfl) (by simp) (AllReadyH.cons rfl (fun K hK=>?_) (AllReadyH.nil))
  obtain ⟨wI,hrun,hmap,hoI⟩:=(HR.out (SlB rs A5 c5)).put HKR.out 0 HC.out
  have HNA:Hid (NA w wI z mb tb rm Om Ot (SlB rs A5 c5) (MemM.newS 6 ((z:Int)+1)) (setL (fun _=>[]) 0 rs)) :=
   ⟨hH.2.2.far hoI (fun j hj e=>HMR.out (e ▸ hj)),HT.out.far hoI (fun j hj e=>HTR.out (e ▸ hj)),hmap,hH.2.1.trans (hoI.below (fun j e=>e ▸ HRW.out) hH.2.1.size),HNM.out,HNT.out,HRW.out,HMT.out,HMR.out,HTR.out,fun j hj=>⟨(HKM.out j hj).1,(HKM.out j hj).2,fun e=>HKR.out (e ▸ hj),by
    obtain ⟨off,_,h5⟩:=slb_at HC.out.1 hj
    exact Nat.lt_of_lt_of_le h5 hoI.size⟩⟩
  go_simp
  refine hK.out _ _ (⟨hH.1.only hoI HXR.out,HNA.out.bel,HNA.out.mem⟩) (fun hH=>?_)
  clear hK K
  clear hrun hmap hoI HT HR HC
  try simp only [Act.put,zq1,zq2,zq3]
  refine zqt 10 (some 28) ?v13 rfl rfl ?c13 hH ?r13
  case c13=>(intro w' _;go_simp;(try with_reducible rfl))
  try simp only [Act.put,zq1,zq2,zq3]
  refine zqt 11 (some 29) ?v14 rfl rfl ?c14 hH ?r14
  case c14=>(intro w' _;go_simp;(try with_reducible rfl))
  try simp only [Act.put,zq1,zq2,zq3]
  refine wpAnyH_ready (rs:=[12]) (by kernel_rfl) (by simp) (AllReadyH.cons rfl (fun K hK=>?_) (AllReadyH.nil))
  have hb:=below_box wI (.cells (shc ⟨z,N,T⟩ mb tb rm (.slice none 0 0)) 83)
  have HSR:=Lib.hid (NA.sr (C:=⟨z,N,T⟩) HNA.out)
  go_simp
  refine hK.out _ _ (⟨hH.1.next hb,hH.2.1.trans (hb.mono hH.2.1.size),hH.2.2.next hb⟩) (fun hH=>?_)
  clear hK K
  clear hb
  try simp only [Act.put,zq1,zq2,zq3]
  refine zqt 13 (some 8) ?v15 rfl rfl ?c15 hH ?r15
  case c15=>(intro w' _;go_simp;(try with_reducible rfl))
  try simp only [Act.put,zq1,zq2,zq3]
  refine wpAnyH_done (by kernel_rfl) ?_ _
  clear hH
  go_wp2_with fail
  go_ret2
  exact ⟨_,_,_,_,_,_,_,rfl,HSR.out⟩
end Pg
end Go.Proofs.YtcockldefmmhbaaGreatDoor
