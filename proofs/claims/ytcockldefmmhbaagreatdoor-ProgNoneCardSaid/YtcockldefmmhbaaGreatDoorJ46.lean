/- Several texts of this proof in one file, each in its own namespace. -/
import Derived.Test.YtcockldefmmhbaaGreatDoorJ38
import Derived.Lib.Join
import Derived.Test.YtcockldefmmhbaaGreatDoorSq
import Derived.Test.YtcockldefmmhbaaGreatDoorJ10
import Derived.Test.YtcockldefmmhbaaGreatDoorJ35
set_option linter.unusedVariables false
set_option maxRecDepth 100000
set_option linter.unusedSimpArgs false
namespace Go.Proofs.YtcockldefmmhbaaGreatDoor
open Go.ChangeShapes Go.WideShapes Go.ChangeAt Go.RowKit Go.Mtl Go.Shelf Go.Lib
namespace Ru
open RulM (R wordS known protoP known_iff spanS netL verdL goodR goodR_iff wordsR)
open AdrM (anyL validS showS)
theorem RAt.drew {w W:World} {g:Nat} {r:R} (h:RAt w g r W):RAt w g r W.drew:=⟨h.blk.drew,h.bel.drew⟩
end Ru
end Go.Proofs.YtcockldefmmhbaaGreatDoor
set_option linter.unusedVariables false
set_option maxRecDepth 100000
set_option linter.unusedSimpArgs false
namespace Go.Proofs.YtcockldefmmhbaaGreatDoor
open Go.ChangeShapes Go.WideShapes Go.ChangeAt Go.RowKit Go.Mtl Go.Shelf Go.Lib
namespace Ru
open RulM (R wordS known protoP spanS spanP parseW acceptL dropL)
open AdrM (anyL netS)
structure TenAt (w:World) (g:Nat) (cs:Array Value) (W:World):Prop where
 blk:Blk W g cs 80
 bel:Below w.heap.size w W
 le:w.heap.size<=g
theorem TenAt.box (w:World) (cs:Array Value):TenAt w w.heap.size cs (w.alloc (.cells cs 80)):=⟨Blk.box _ _ _,below_box _ _,Nat.le_refl _⟩
theorem TenAt.next {w W W':World} {g:Nat} {cs:Array Value} (h:TenAt w g cs W) (hb:Below W.heap.size W W'):TenAt w g cs W':=⟨h.blk.next hb,below_then h.bel hb,h.le⟩
theorem TenAt.put {w W:World} {g:Nat} {a0 a1 a2 a3 a4 a5 a6 a7 a8 a9:Value} (h:TenAt w g #[a0,a1,a2,a3,a4,a5,a6,a7,a8,a9] W) (v0 v1 v2 v3 v4 v5 v6 v7 v8 v9:Value) :
  TenAt w g #[v0,v1,v2,v3,v4,v5,v6,v7,v8,v9] ((((((((((W.setCell ⟨g,0,none⟩ v0).setCell ⟨g,1,none⟩ v1).setCell ⟨g,2,none⟩ v2).setCell ⟨g,3,none⟩ v3).setCell ⟨g,4,none⟩ v4).setCell ⟨g,5,none⟩ v5).setCell ⟨g,6,none⟩ v6).setCell ⟨g,7,none⟩ v7).setCell ⟨g,8,none⟩ v8).setCell ⟨g,9,none⟩ v9):=by
 have h0:Blk (W.setCell ⟨g,0,none⟩ v0) g #[v0,a1,a2,a3,a4,a5,a6,a7,a8,a9] 80:=h.blk.set' 0 v0 rfl
 have h1:Blk ((W.setCell ⟨g,0,none⟩ v0).setCell ⟨g,1,none⟩ v1) g #[v0,v1,a2,a3,a4,a5,a6,a7,a8,a9] 80:=h0.set' 1 v1 rfl
 have h2:Blk (((W.setCell ⟨g,0,none⟩ v0).setCell ⟨g,1,none⟩ v1).setCell ⟨g,2,none⟩ v2) g #[v0,v1,v2,a3,a4,a5,a6,a7,a8,a9] 80:=h1.set' 2 v2 rfl
 have h3:Blk ((((W.setCell ⟨g,0,none⟩ v0).setCell ⟨g,1,none⟩ v1).setCell ⟨g,2,none⟩ v2).setCell ⟨g,3,none⟩ v3) g #[v0,v1,v2,v3,a4,a5,a6,a7,a8,a9] 80:=h2.set' 3 v3 rfl
 have h4:Blk (((((W.setCell ⟨g,0,none⟩ v0).setCell ⟨g,1,none⟩ v1).setCell ⟨g,2,none⟩ v2).setCell ⟨g,3,none⟩ v3).setCell ⟨g,4,none⟩ v4) g #[v0,v1,v2,v3,v4,a5,a6,a7,a8,a9] 80:=h3.set' 4 v4 rfl
 have h5:Blk ((((((W.setCell ⟨g,0,none⟩ v0).setCell ⟨g,1,none⟩ v1).setCell ⟨g,2,none⟩ v2).setCell ⟨g,3,none⟩ v3).setCell ⟨g,4,none⟩ v4).setCell ⟨g,5,none⟩ v5) g #[v0,v1,v2,v3,v4,v5,a6,a7,a8,a9] 80:=h4.set' 5 v5 rfl
 have h6:Blk (((((((W.setCell ⟨g,0,none⟩ v0).setCell ⟨g,1,none⟩ v1).setCell ⟨g,2,none⟩ v2).setCell ⟨g,3,none⟩ v3).setCell ⟨g,4,none⟩ v4).setCell ⟨g,5,none⟩ v5).setCell ⟨g,6,none⟩ v6) g #[v0,v1,v2,v3,v4,v5,v6,a7,a8,a9] 80:=h5.set' 6 v6 rfl
 have h7:Blk ((((((((W.setCell ⟨g,0,none⟩ v0).setCell ⟨g,1,none⟩ v1).setCell ⟨g,2,none⟩ v2).setCell ⟨g,3,none⟩ v3).setCell ⟨g,4,none⟩ v4).setCell ⟨g,5,none⟩ v5).setCell ⟨g,6,none⟩ v6).setCell ⟨g,7,none⟩ v7) g #[v0,v1,v2,v3,v4,v5,v6,v7,a8,a9] 80:=h6.set' 7 v7 rfl
 have h8:Blk (((((((((W.setCell ⟨g,0,none⟩ v0).setCell ⟨g,1,none⟩ v1).setCell ⟨g,2,none⟩ v2).setCell ⟨g,3,none⟩ v3).setCell ⟨g,4,none⟩ v4).setCell ⟨g,5,none⟩ v5).setCell ⟨g,6,none⟩ v6).setCell ⟨g,7,none⟩ v7).setCell ⟨g,8,none⟩ v8) g #[v0,v1,v2,v3,v4,v5,v6,v7,v8,a9] 80:=h7.set' 8 v8 rfl
 have h9:Blk ((((((((((W.setCell ⟨g,0,none⟩ v0).setCell ⟨g,1,none⟩ v1).setCell ⟨g,2,none⟩ v2).setCell ⟨g,3,none⟩ v3).setCell ⟨g,4,none⟩ v4).setCell ⟨g,5,none⟩ v5).setCell ⟨g,6,none⟩ v6).setCell ⟨g,7,none⟩ v7).setCell ⟨g,8,none⟩ v8).setCell ⟨g,9,none⟩ v9) g #[v0,v1,v2,v3,v4,v5,v6,v7,v8,v9] 80:=h8.set' 9 v9 rfl
 exact ⟨h9,((((((((((h.bel.setCell (p:=⟨g,0,none⟩) h.le v0).setCell (p:=⟨g,1,none⟩) h.le v1).setCell (p:=⟨g,2,none⟩) h.le v2).setCell (p:=⟨g,3,none⟩) h.le v3).setCell (p:=⟨g,4,none⟩) h.le v4).setCell (p:=⟨g,5,none⟩) h.le v5).setCell (p:=⟨g,6,none⟩) h.le v6).setCell (p:=⟨g,7,none⟩) h.le v7).setCell (p:=⟨g,8,none⟩) h.le v8).setCell (p:=⟨g,9,none⟩) h.le v9),h.le⟩
abbrev zR:Array Value:=#[.bool false,.int .u8 0,.int .u32 0,.int .i64 0,.int .u32 0,.int .i64 0,.int .u16 0,.int .u16 0,.int .u16 0,.int .u16 0]
def ruleV (o:Option R):Value:=match o with
 | some r=>.tuple #[.agg (cR r),.bool true]
 | none=>.tuple #[.agg zR,.bool false]
structure Wds (g:Nat) (v p s sp d dp:List UInt8) (W:World):Prop where
 lt:g < W.heap.size
 c0:W.cell? ⟨g,0,none⟩=some (.string ⟨v.toArray⟩)
 c1:W.cell? ⟨g,1,none⟩=some (.string ⟨p.toArray⟩)
 c2:W.cell? ⟨g,2,none⟩=some (.string ⟨s.toArray⟩)
 c3:W.cell? ⟨g,3,none⟩=some (.string ⟨sp.toArray⟩)
 c4:W.cell? ⟨g,4,none⟩=some (.string ⟨d.toArray⟩)
 c5:W.cell? ⟨g,5,none⟩=some (.string ⟨dp.toArray⟩)
theorem Wds.next {g:Nat} {v p s sp d dp:List UInt8} {W W':World} (h:Wds g v p s sp d dp W) (hb:Below W.heap.size W W'):Wds g v p s sp d dp W' :=
 ⟨Nat.lt_of_lt_of_le h.lt hb.size,(hb.cell h.lt).trans h.c0,(hb.cell h.lt).trans h.c1,(hb.cell h.lt).trans h.c2,(hb.cell h.lt).trans h.c3,(hb.cell h.lt).trans h.c4,(hb.cell h.lt).trans h.c5⟩
structure PX (w:World) (g:Nat) (v p s sp d dp:List UInt8) (W:World):Prop where
 ten:TenAt w w.heap.size zR W
 wds:Wds g v p s sp d dp W
theorem PX.next {w W W':World} {g:Nat} {v p s sp d dp:List UInt8} (h:PX w g v p s sp d dp W) (hb:Below W.heap.size W W'):PX w g v p s sp d dp W':=⟨h.ten.next hb,h.wds.next hb⟩
theorem spanV_form (o:Option (Nat × Nat)):∃ (x y:Int) (b:Bool),spanV o = .tuple #[.agg #[.int .u16 x,.int .u16 y],.bool b]:=by
 cases o with
 | none=>exact ⟨_,_,_,rfl⟩
 | some n=>exact ⟨_,_,_,rfl⟩
theorem netV_form (o:Option (Nat × Nat)):∃ (a n e:Int),Ad.netVal o = .tuple #[.agg #[.int .u32 a,.int .i64 n],.int .i64 e]:=by
 cases o with
 | none=>exact ⟨_,_,_,rfl⟩
 | some n=>exact ⟨_,_,_,rfl⟩
theorem netV_none:Ad.netVal none = .tuple #[.agg #[.int .u32 0,.int .i64 0],.int .i64 3]:=rfl
theorem netV_some (a n:Nat):Ad.netVal (some (a,n)) = .tuple #[.agg #[.int .u32 (a:Int),.int .i64 (n:Int)],.int .i64 0]:=rfl
theorem spanV_none:spanV none = .tuple #[.agg #[.int .u16 0,.int .u16 0],.bool false]:=rfl
theorem spanV_some (a b:Nat):spanV (some (a,b)) = .tuple #[.agg #[.int .u16 (a:Int),.int .u16 (b:Int)],.bool true]:=rfl
theorem net_list (l:List UInt8) (hl:l.length<=4096) (w:World) (he:Ad.Env w) :
  Calls Tryz.prog 161 #[.string ⟨l.toArray⟩] w fun e w'=>e = .returned (Ad.netVal (netS l))/\Below w.heap.size w w':=by
 have h:=Ad.net_any ⟨l.toArray⟩ (by simp [ByteArray.size];omega) w he
 have e0:(⟨l.toArray⟩:ByteArray).data.toList=l:=by simp
 rw [e0] at h
 exact h
theorem look_list (l:List UInt8) (W:World) (b:Nat) (hb:W.heap[b]? = some (.map pm 4)) :
  (Instr.lookup 222 (.map (some b)) (.string ⟨l.toArray⟩) true).run Tryz.prog W = .ok (.tuple #[.int .u8 (protoN l:Int),.bool (protoB l)]) W:=by
 have h:=look_any ⟨l.toArray⟩ W b hb
 have e0:(⟨l.toArray⟩:ByteArray).data.toList=l:=by simp
 rw [e0] at h
 exact h
end Ru
end Go.Proofs.YtcockldefmmhbaaGreatDoor
set_option linter.unusedVariables false
set_option maxRecDepth 100000
set_option linter.unusedSimpArgs false
namespace Go.Proofs.YtcockldefmmhbaaGreatDoor
open Go.ChangeShapes Go.WideShapes Go.ChangeAt Go.RowKit Go.Mtl Go.Shelf Go.Lib
namespace Ru
open RulM (R wordS known protoP spanS spanP parseW acceptL dropL)
open AdrM (anyL netS)
set_option maxRecDepth 100000 in
set_option maxHeartbeats 2000000 in
theorem parse_dk (v p s sp d dp:List UInt8) (g cap:Nat) (w:World) (he:Env w) (hW:Wds g v p s sp d dp w) (hcap:6<=cap) (hcap2:cap<=9223372036854775807) (l2:s.length<=4096) (l3:sp.length<=4096) (l4:d.length<=4096) (l5:dp.length<=4096) (hA:(v == [97,99,99,101,112,116])=false) (hD:(v == [100,114,111,112])=true) (hK:protoB p=false) :
  Calls Tryz.prog 113 #[.slice (some ⟨g,0,none⟩) 6 cap] w fun e w'=>e = .returned (ruleV none)/\Below w.heap.size w w':=by
 have H0:=Lib.hid (fun W (h:Below w.heap.size w W)=>net_list s l2 W (he.ad.below h))
 obtain ⟨x0,y0,z0,e0⟩:=netV_form (netS s)
 rw [e0] at H0
 clear e0
 have H1:=Lib.hid (fun W (h:Below w.heap.size w W)=>parseSpan_any sp l3 W (he.ad.below h))
 obtain ⟨x1,y1,z1,e1⟩:=spanV_form (spanP sp)
 rw [e1] at H1
 clear e1
 have H2:=Lib.hid (fun W (h:Below w.heap.size w W)=>net_list d l4 W (he.ad.below h))
 obtain ⟨x2,y2,z2,e2⟩:=netV_form (netS d)
 rw [e2] at H2
 clear e2
 have H3:=Lib.hid (fun W (h:Below w.heap.size w W)=>parseSpan_any dp l5 W (he.ad.below h))
 obtain ⟨x3,y3,z3,e3⟩:=spanV_form (spanP dp)
 rw [e3] at H3
 clear e3
 have HLK:=Lib.hid (fun W b hb=>look_list p W b hb)
 rw [hK] at HLK
 generalize protoN p=pn at *
 have HP0:Hid (PX w g v p s sp d dp (w.alloc (.cells zR 80))):=⟨TenAt.box w zR,hW.next (below_box _ _)⟩
 have hgl:=hW.lt
 clear he l2 l3 l4 l5 hK hW
 have c0:=HP0.out.wds.c0
 have c1:=HP0.out.wds.c1
 go_enter Tryz.func113,Tryz.ntmps113
 go_wp2_with fail
 clear c0
 obtain ⟨W0,hW0⟩:∃ U,w.alloc (.cells zR 80)=U:=⟨_,rfl⟩
 unfold zR at hW0
 rw [hW0] at HP0 c1 ⊢
 clear hW0
 refine wp_region_held_drew (S:=(fun w'=>w'.cell? ⟨g,1,none⟩=some (.string ⟨p.toArray⟩)/\Hid (PX w g v p s sp d dp w'))) (by kernel_rfl) (⟨c1,HP0.out.next ((Below.refl _ _).drew)⟩) (fun hH=>?_)
 refine zqt 1 (some 24) ?v1 rfl rfl ?c1 hH ?r1
 case c1=>(intro w' _;go_simp;(try with_reducible rfl))
 try simp only [Act.put,zq1,zq2,zq3]
 refine zqt 2 (some 25) ?v2 rfl rfl ?c2 hH ?r2
 case c2=>(intro w' _;go_simp;(try with_reducible rfl))
 try simp only [Act.put,zq1,zq2,zq3]
 refine zqt 3 (some 26) ?v3 rfl rfl ?c3 hH ?r3
 case c3=>(intro w' hS;(try dsimp only at hS);go_simp;(try with_reducible rfl))
 try simp only [Act.put,zq1,zq2,zq3]
 refine wpAnyH_ready (rs:=[0]) (by kernel_rfl) (by simp) (AllReadyH.cons rfl (fun K hK=>?_) (AllReadyH.nil))
 go_simp
 go_at_call 160
 refine (protocols_any _).mono ?_
 rintro e w1 ⟨rfl,rfl⟩
 have HM:=Lib.hid (heap_alloc_new W0.drew (.map pm 4))
 have HPM:Hid (PX w g v p s sp d dp (W0.drew.alloc (.map pm 4))):=hH.2.out.next (below_box _ _)
 refine hK.out _ _ (⟨HPM.out.wds.c1,HPM⟩) (fun hH=>?_)
 clear hK K
 try simp only [Act.put,zq1,zq2,zq3]
 refine wpAnyH_ready (rs:=[4]) (by kernel_rfl) (by simp) (AllReadyH.cons rfl (fun K hK=>?_) (AllReadyH.nil))
 have hlk:=HLK.out ((W0.alloc (.map pm 4)).drew) W0.heap.size (heap_alloc_new W0 _)
 go_simp
 refine hK.out _ _ (hH) (fun hH=>?_)
 clear hK K
 clear hlk
 try simp only [Act.put,zq1,zq2,zq3]
 refine zqt 5 (some 22) ?v4 rfl rfl ?c4 hH ?r4
 case c4=>(intro w' _;go_simp;(try with_reducible rfl))
 try simp only [Act.put,zq1,zq2,zq3]
 refine zqt 6 (some 28) ?v5 rfl rfl ?c5 hH ?r5
 case c5=>(intro w' _;go_simp;(try with_reducible rfl))
 try simp only [Act.put,zq1,zq2,zq3]
 refine zqt 7 (some 29) ?v6 rfl rfl ?c6 hH ?r6
 case c6=>(intro w' _;go_simp;(try with_reducible rfl))
 try simp only [Act.put,zq1,zq2,zq3]
 refine zqt 8 (some 5) ?v7 rfl rfl ?c7 hH ?r7
 case c7=>(intro w' _;go_simp;(try with_reducible rfl))
 try simp only [Act.put,zq1,zq2,zq3]
 refine zqt 9 (some 6) ?v8 rfl rfl ?c8 hH ?r8
 case c8=>(intro w' _;go_simp;(try with_reducible rfl))
 try simp only [Act.put,zq1,zq2,zq3]
 refine wpAnyH_done (by kernel_rfl) ?_ _
 have HQ0:=Lib.hid hH.2.out
 clear hH HM HPM HP0
 try clear hlk
 have c2:=HQ0.out.wds.c2
 go_wp2_with fail
 go_at_call 161
 refine (H0.out _ HQ0.out.ten.bel).mono ?_
 rintro e w2 ⟨rfl,hb⟩
 have HQ1:=Lib.hid ((HQ0.out.next hb).next (below_box w2 (.cells #[.int .u32 x0,.int .i64 y0] 75)))
 clear hb c2
 have c3:=HQ1.out.wds.c3
 go_wp2_with fail
 go_at_call 162
 refine (H1.out _ HQ1.out.ten.bel).mono ?_
 rintro e w3 ⟨rfl,hb⟩
 have HQ2:=Lib.hid ((HQ1.out.next hb).next (below_box w3 (.cells #[.int .u16 x1,.int .u16 y1] 78)))
 clear hb c3
 have c4:=HQ2.out.wds.c4
 go_wp2_with fail
 go_at_call 161
 refine (H2.out _ HQ2.out.ten.bel).mono ?_
 rintro e w4 ⟨rfl,hb⟩
 have HQ3:=Lib.hid ((HQ2.out.next hb).next (below_box w4 (.cells #[.int .u32 x2,.int .i64 y2] 75)))
 clear hb c4
 have c5:=HQ3.out.wds.c5
 go_wp2_with fail
 go_at_call 162
 refine (H3.out _ HQ3.out.ten.bel).mono ?_
 rintro e w5 ⟨rfl,hb⟩
 have HQ4:=Lib.hid ((HQ3.out.next hb).next (below_box w5 (.cells #[.int .u16 x3,.int .u16 y3] 78)))
 clear hb c5
 have d0:=HQ4.out.ten.blk.cell 0 _ rfl
 have f0:=HQ4.out.ten.blk.frozen 0
 have d1:=HQ4.out.ten.blk.cell 1 _ rfl
 have f1:=HQ4.out.ten.blk.frozen 1
 have d2:=HQ4.out.ten.blk.cell 2 _ rfl
 have f2:=HQ4.out.ten.blk.frozen 2
 have d3:=HQ4.out.ten.blk.cell 3 _ rfl
 have f3:=HQ4.out.ten.blk.frozen 3
 have d4:=HQ4.out.ten.blk.cell 4 _ rfl
 have f4:=HQ4.out.ten.blk.frozen 4
 have d5:=HQ4.out.ten.blk.cell 5 _ rfl
 have f5:=HQ4.out.ten.blk.frozen 5
 have d6:=HQ4.out.ten.blk.cell 6 _ rfl
 have f6:=HQ4.out.ten.blk.frozen 6
 have d7:=HQ4.out.ten.blk.cell 7 _ rfl
 have f7:=HQ4.out.ten.blk.frozen 7
 have d8:=HQ4.out.ten.blk.cell 8 _ rfl
 have f8:=HQ4.out.ten.blk.frozen 8
 have d9:=HQ4.out.ten.blk.cell 9 _ rfl
 have f9:=HQ4.out.ten.blk.frozen 9
 go_wp2_with fail
 have HY:=Lib.hid (HQ4.out.ten.put (.bool false) (.int .u8 0) (.int .u32 0) (.int .i64 0) (.int .u32 0) (.int .i64 0) (.int .u16 0) (.int .u16 0) (.int .u16 0) (.int .u16 0))
 have r0:=HY.out.blk.cell 0 _ rfl
 have r1:=HY.out.blk.cell 1 _ rfl
 have r2:=HY.out.blk.cell 2 _ rfl
 have r3:=HY.out.blk.cell 3 _ rfl
 have r4:=HY.out.blk.cell 4 _ rfl
 have r5:=HY.out.blk.cell 5 _ rfl
 have r6:=HY.out.blk.cell 6 _ rfl
 have r7:=HY.out.blk.cell 7 _ rfl
 have r8:=HY.out.blk.cell 8 _ rfl
 have r9:=HY.out.blk.cell 9 _ rfl
 clear d0 d1 d2 d3 d4 d5 d6 d7 d8 d9 f0 f1 f2 f3 f4 f5 f6 f7 f8 f9
 exact bodyPost_ret (v:=ruleV none) (by simp [results,Tryz.results113,go_sem,ruleV,r0,r1,r2,r3,r4,r5,r6,r7,r8,r9]) rfl ⟨rfl,HY.out.bel⟩
set_option maxRecDepth 100000 in
set_option maxHeartbeats 2000000 in
theorem parse_dn1 (v p s sp d dp:List UInt8) (g cap:Nat) (w:World) (he:Env w) (hW:Wds g v p s sp d dp w) (hcap:6<=cap) (hcap2:cap<=9223372036854775807) (l2:s.length<=4096) (l3:sp.length<=4096) (l4:d.length<=4096) (l5:dp.length<=4096) (hA:(v == [97,99,99,101,112,116])=false) (hD:(v == [100,114,111,112])=true) (hK:protoB p=true) (h0:netS s=none) :
  Calls Tryz.prog 113 #[.slice (some ⟨g,0,none⟩) 6 cap] w fun e w'=>e = .returned (ruleV none)/\Below w.heap.size w w':=by
 have H0:=Lib.hid (fun W (h:Below w.heap.size w W)=>net_list s l2 W (he.ad.below h))
 rw [h0,netV_none] at H0
 have H1:=Lib.hid (fun W (h:Below w.heap.size w W)=>parseSpan_any sp l3 W (he.ad.below h))
 obtain ⟨x1,y1,z1,e1⟩:=spanV_form (spanP sp)
 rw [e1] at H1
 clear e1
 have H2:=Lib.hid (fun W (h:Below w.heap.size w W)=>net_list d l4 W (he.ad.below h))
 obtain ⟨x2,y2,z2,e2⟩:=netV_form (netS d)
 rw [e2] at H2
 clear e2
 have H3:=Lib.hid (fun W (h:Below w.heap.size w W)=>parseSpan_any dp l5 W (he.ad.below h))
 obtain ⟨x3,y3,z3,e3⟩:=spanV_form (spanP dp)
 rw [e3] at H3
 clear e3
 have HLK:=Lib.hid (fun W b hb=>look_list p W b hb)
 rw [hK] at HLK
 generalize protoN p=pn at *
 have HP0:Hid (PX w g v p s sp d dp (w.alloc (.cells zR 80))):=⟨TenAt.box w zR,hW.next (below_box _ _)⟩
 have hgl:=hW.lt
 clear he l2 l3 l4 l5 h0 hK hW
 have c0:=HP0.out.wds.c0
 have c1:=HP0.out.wds.c1
 go_enter Tryz.func113,Tryz.ntmps113
 go_wp2_with fail
 clear c0
 obtain ⟨W0,hW0⟩:∃ U,w.alloc (.cells zR 80)=U:=⟨_,rfl⟩
 unfold zR at hW0
 rw [hW0] at HP0 c1 ⊢
 clear hW0
 refine wp_region_held_drew (S:=(fun w'=>w'.cell? ⟨g,1,none⟩=some (.string ⟨p.toArray⟩)/\Hid (PX w g v p s sp d dp w'))) (by kernel_rfl) (⟨c1,HP0.out.next ((Below.refl _ _).drew)⟩) (fun hH=>?_)
 refine zqt 1 (some 24) ?v1 rfl rfl ?c1 hH ?r1
 case c1=>(intro w' _;go_simp;(try with_reducible rfl))
 try simp only [Act.put,zq1,zq2,zq3]
 refine zqt 2 (some 25) ?v2 rfl rfl ?c2 hH ?r2
 case c2=>(intro w' _;go_simp;(try with_reducible rfl))
 try simp only [Act.put,zq1,zq2,zq3]
 refine zqt 3 (some 26) ?v3 rfl rfl ?c3 hH ?r3
 case c3=>(intro w' hS;(try dsimp only at hS);go_simp;(try with_reducible rfl))
 try simp only [Act.put,zq1,zq2,zq3]
 refine wpAnyH_ready (rs:=[0]) (by kernel_rfl) (by simp) (AllReadyH.cons rfl (fun K hK=>?_) (AllReadyH.nil))
 go_simp
 go_at_call 160
 refine (protocols_any _).mono ?_
 rintro e w1 ⟨rfl,rfl⟩
 have HM:=Lib.hid (heap_alloc_new W0.drew (.map pm 4))
 have HPM:Hid (PX w g v p s sp d dp (W0.drew.alloc (.map pm 4))):=hH.2.out.next (below_box _ _)
 refine hK.out _ _ (⟨HPM.out.wds.c1,HPM⟩) (fun hH=>?_)
 clear hK K
 try simp only [Act.put,zq1,zq2,zq3]
 refine wpAnyH_ready (rs:=[4]) (by kernel_rfl) (by simp) (AllReadyH.cons rfl (fun K hK=>?_) (AllReadyH.nil))
 have hlk:=HLK.out ((W0.alloc (.map pm 4)).drew) W0.heap.size (heap_alloc_new W0 _)
 go_simp
 refine hK.out _ _ (hH) (fun hH=>?_)
 clear hK K
 clear hlk
 try simp only [Act.put,zq1,zq2,zq3]
 refine zqt 5 (some 22) ?v4 rfl rfl ?c4 hH ?r4
 case c4=>(intro w' _;go_simp;(try with_reducible rfl))
 try simp only [Act.put,zq1,zq2,zq3]
 refine zqt 6 (some 28) ?v5 rfl rfl ?c5 hH ?r5
 case c5=>(intro w' _;go_simp;(try with_reducible rfl))
 try simp only [Act.put,zq1,zq2,zq3]
 refine zqt 7 (some 29) ?v6 rfl rfl ?c6 hH ?r6
 case c6=>(intro w' _;go_simp;(try with_reducible rfl))
 try simp only [Act.put,zq1,zq2,zq3]
 refine zqt 8 (some 5) ?v7 rfl rfl ?c7 hH ?r7
 case c7=>(intro w' _;go_simp;(try with_reducible rfl))
 try simp only [Act.put,zq1,zq2,zq3]
 refine zqt 9 (some 6) ?v8 rfl rfl ?c8 hH ?r8
 case c8=>(intro w' _;go_simp;(try with_reducible rfl))
 try simp only [Act.put,zq1,zq2,zq3]
 refine wpAnyH_done (by kernel_rfl) ?_ _
 have HQ0:=Lib.hid hH.2.out
 clear hH HM HPM HP0
 try clear hlk
 have c2:=HQ0.out.wds.c2
 go_wp2_with fail
 go_at_call 161
 refine (H0.out _ HQ0.out.ten.bel).mono ?_
 rintro e w2 ⟨rfl,hb⟩
 have HQ1:=Lib.hid ((HQ0.out.next hb).next (below_box w2 (.cells #[.int .u32 0,.int .i64 0] 75)))
 clear hb c2
 have c3:=HQ1.out.wds.c3
 go_wp2_with fail
 go_at_call 162
 refine (H1.out _ HQ1.out.ten.bel).mono ?_
 rintro e w3 ⟨rfl,hb⟩
 have HQ2:=Lib.hid ((HQ1.out.next hb).next (below_box w3 (.cells #[.int .u16 x1,.int .u16 y1] 78)))
 clear hb c3
 have c4:=HQ2.out.wds.c4
 go_wp2_with fail
 go_at_call 161
 refine (H2.out _ HQ2.out.ten.bel).mono ?_
 rintro e w4 ⟨rfl,hb⟩
 have HQ3:=Lib.hid ((HQ2.out.next hb).next (below_box w4 (.cells #[.int .u32 x2,.int .i64 y2] 75)))
 clear hb c4
 have c5:=HQ3.out.wds.c5
 go_wp2_with fail
 go_at_call 162
 refine (H3.out _ HQ3.out.ten.bel).mono ?_
 rintro e w5 ⟨rfl,hb⟩
 have HQ4:=Lib.hid ((HQ3.out.next hb).next (below_box w5 (.cells #[.int .u16 x3,.int .u16 y3] 78)))
 clear hb c5
 have d0:=HQ4.out.ten.blk.cell 0 _ rfl
 have f0:=HQ4.out.ten.blk.frozen 0
 have d1:=HQ4.out.ten.blk.cell 1 _ rfl
 have f1:=HQ4.out.ten.blk.frozen 1
 have d2:=HQ4.out.ten.blk.cell 2 _ rfl
 have f2:=HQ4.out.ten.blk.frozen 2
 have d3:=HQ4.out.ten.blk.cell 3 _ rfl
 have f3:=HQ4.out.ten.blk.frozen 3
 have d4:=HQ4.out.ten.blk.cell 4 _ rfl
 have f4:=HQ4.out.ten.blk.frozen 4
 have d5:=HQ4.out.ten.blk.cell 5 _ rfl
 have f5:=HQ4.out.ten.blk.frozen 5
 have d6:=HQ4.out.ten.blk.cell 6 _ rfl
 have f6:=HQ4.out.ten.blk.frozen 6
 have d7:=HQ4.out.ten.blk.cell 7 _ rfl
 have f7:=HQ4.out.ten.blk.frozen 7
 have d8:=HQ4.out.ten.blk.cell 8 _ rfl
 have f8:=HQ4.out.ten.blk.frozen 8
 have d9:=HQ4.out.ten.blk.cell 9 _ rfl
 have f9:=HQ4.out.ten.blk.frozen 9
 go_wp2_with fail
 have HY:=Lib.hid (HQ4.out.ten.put (.bool false) (.int .u8 0) (.int .u32 0) (.int .i64 0) (.int .u32 0) (.int .i64 0) (.int .u16 0) (.int .u16 0) (.int .u16 0) (.int .u16 0))
 have r0:=HY.out.blk.cell 0 _ rfl
 have r1:=HY.out.blk.cell 1 _ rfl
 have r2:=HY.out.blk.cell 2 _ rfl
 have r3:=HY.out.blk.cell 3 _ rfl
 have r4:=HY.out.blk.cell 4 _ rfl
 have r5:=HY.out.blk.cell 5 _ rfl
 have r6:=HY.out.blk.cell 6 _ rfl
 have r7:=HY.out.blk.cell 7 _ rfl
 have r8:=HY.out.blk.cell 8 _ rfl
 have r9:=HY.out.blk.cell 9 _ rfl
 clear d0 d1 d2 d3 d4 d5 d6 d7 d8 d9 f0 f1 f2 f3 f4 f5 f6 f7 f8 f9
 exact bodyPost_ret (v:=ruleV none) (by simp [results,Tryz.results113,go_sem,ruleV,r0,r1,r2,r3,r4,r5,r6,r7,r8,r9]) rfl ⟨rfl,HY.out.bel⟩
set_option maxRecDepth 100000 in
set_option maxHeartbeats 2000000 in
theorem parse_dn2 (v p s sp d dp:List UInt8) (g cap:Nat) (w:World) (he:Env w) (hW:Wds g v p s sp d dp w) (hcap:6<=cap) (hcap2:cap<=9223372036854775807) (l2:s.length<=4096) (l3:sp.length<=4096) (l4:d.length<=4096) (l5:dp.length<=4096) (hA:(v == [97,99,99,101,112,116])=false) (hD:(v == [100,114,111,112])=true) (hK:protoB p=true) (x0 y0:Nat) (h0:netS s=some (x0,y0)) (h2:netS d=none) :
  Calls Tryz.prog 113 #[.slice (some ⟨g,0,none⟩) 6 cap] w fun e w'=>e = .returned (ruleV none)/\Below w.heap.size w w':=by
 have H0:=Lib.hid (fun W (h:Below w.heap.size w W)=>net_list s l2 W (he.ad.below h))
 rw [h0,netV_some] at H0
 have H1:=Lib.hid (fun W (h:Below w.heap.size w W)=>parseSpan_any sp l3 W (he.ad.below h))
 obtain ⟨x1,y1,z1,e1⟩:=spanV_form (spanP sp)
 rw [e1] at H1
 clear e1
 have H2:=Lib.hid (fun W (h:Below w.heap.size w W)=>net_list d l4 W (he.ad.below h))
 rw [h2,netV_none] at H2
 have H3:=Lib.hid (fun W (h:Below w.heap.size w W)=>parseSpan_any dp l5 W (he.ad.below h))
 obtain ⟨x3,y3,z3,e3⟩:=spanV_form (spanP dp)
 rw [e3] at H3
 clear e3
 have HLK:=Lib.hid (fun W b hb=>look_list p W b hb)
 rw [hK] at HLK
 generalize protoN p=pn at *
 have HP0:Hid (PX w g v p s sp d dp (w.alloc (.cells zR 80))):=⟨TenAt.box w zR,hW.next (below_box _ _)⟩
 have hgl:=hW.lt
 clear he l2 l3 l4 l5 h0 h2 hK hW
 have c0:=HP0.out.wds.c0
 have c1:=HP0.out.wds.c1
 go_enter Tryz.func113,Tryz.ntmps113
 go_wp2_with fail
 clear c0
 obtain ⟨W0,hW0⟩:∃ U,w.alloc (.cells zR 80)=U:=⟨_,rfl⟩
 unfold zR at hW0
 rw [hW0] at HP0 c1 ⊢
 clear hW0
 refine wp_region_held_drew (S:=(fun w'=>w'.cell? ⟨g,1,none⟩=some (.string ⟨p.toArray⟩)/\Hid (PX w g v p s sp d dp w'))) (by kernel_rfl) (⟨c1,HP0.out.next ((Below.refl _ _).drew)⟩) (fun hH=>?_)
 refine zqt 1 (some 24) ?v1 rfl rfl ?c1 hH ?r1
 case c1=>(intro w' _;go_simp;(try with_reducible rfl))
 try simp only [Act.put,zq1,zq2,zq3]
 refine zqt 2 (some 25) ?v2 rfl rfl ?c2 hH ?r2
 case c2=>(intro w' _;go_simp;(try with_reducible rfl))
 try simp only [Act.put,zq1,zq2,zq3]
 refine zqt 3 (some 26) ?v3 rfl rfl ?c3 hH ?r3
 case c3=>(intro w' hS;(try dsimp only at hS);go_simp;(try with_reducible rfl))
 try simp only [Act.put,zq1,zq2,zq3]
 refine wpAnyH_ready (rs:=[0]) (by kernel_rfl) (by simp) (AllReadyH.cons rfl (fun K hK=>?_) (AllReadyH.nil))
 go_simp
 go_at_call 160
 refine (protocols_any _).mono ?_
 rintro e w1 ⟨rfl,rfl⟩
 have HM:=Lib.hid (heap_alloc_new W0.drew (.map pm 4))
 have HPM:Hid (PX w g v p s sp d dp (W0.drew.alloc (.map pm 4))):=hH.2.out.next (below_box _ _)
 refine hK.out _ _ (⟨HPM.out.wds.c1,HPM⟩) (fun hH=>?_)
 clear hK K
 try simp only [Act.put,zq1,zq2,zq3]
 refine wpAnyH_ready (rs:=[4]) (by kernel_rfl) (by simp) (AllReadyH.cons rfl (fun K hK=>?_) (AllReadyH.nil))
 have hlk:=HLK.out ((W0.alloc (.map pm 4)).drew) W0.heap.size (heap_alloc_new W0 _)
 go_simp
 refine hK.out _ _ (hH) (fun hH=>?_)
 clear hK K
 clear hlk
 try simp only [Act.put,zq1,zq2,zq3]
 refine zqt 5 (some 22) ?v4 rfl rfl ?c4 hH ?r4
 case c4=>(intro w' _;go_simp;(try with_reducible rfl))
 try simp only [Act.put,zq1,zq2,zq3]
 refine zqt 6 (some 28) ?v5 rfl rfl ?c5 hH ?r5
 case c5=>(intro w' _;go_simp;(try with_reducible rfl))
 try simp only [Act.put,zq1,zq2,zq3]
 refine zqt 7 (some 29) ?v6 rfl rfl ?c6 hH ?r6
 case c6=>(intro w' _;go_simp;(try with_reducible rfl))
 try simp only [Act.put,zq1,zq2,zq3]
 refine zqt 8 (some 5) ?v7 rfl rfl ?c7 hH ?r7
 case c7=>(intro w' _;go_simp;(try with_reducible rfl))
 try simp only [Act.put,zq1,zq2,zq3]
 refine zqt 9 (some 6) ?v8 rfl rfl ?c8 hH ?r8
 case c8=>(intro w' _;go_simp;(try with_reducible rfl))
 try simp only [Act.put,zq1,zq2,zq3]
 refine wpAnyH_done (by kernel_rfl) ?_ _
 have HQ0:=Lib.hid hH.2.out
 clear hH HM HPM HP0
 try clear hlk
 have c2:=HQ0.out.wds.c2
 go_wp2_with fail
 go_at_call 161
 refine (H0.out _ HQ0.out.ten.bel).mono ?_
 rintro e w2 ⟨rfl,hb⟩
 have HQ1:=Lib.hid ((HQ0.out.next hb).next (below_box w2 (.cells #[.int .u32 (x0:Int),.int .i64 (y0:Int)] 75)))
 clear hb c2
 have c3:=HQ1.out.wds.c3
 go_wp2_with fail
 go_at_call 162
 refine (H1.out _ HQ1.out.ten.bel).mono ?_
 rintro e w3 ⟨rfl,hb⟩
 have HQ2:=Lib.hid ((HQ1.out.next hb).next (below_box w3 (.cells #[.int .u16 x1,.int .u16 y1] 78)))
 clear hb c3
 have c4:=HQ2.out.wds.c4
 go_wp2_with fail
 go_at_call 161
 refine (H2.out _ HQ2.out.ten.bel).mono ?_
 rintro e w4 ⟨rfl,hb⟩
 have HQ3:=Lib.hid ((HQ2.out.next hb).next (below_box w4 (.cells #[.int .u32 0,.int .i64 0] 75)))
 clear hb c4
 have c5:=HQ3.out.wds.c5
 go_wp2_with fail
 go_at_call 162
 refine (H3.out _ HQ3.out.ten.bel).mono ?_
 rintro e w5 ⟨rfl,hb⟩
 have HQ4:=Lib.hid ((HQ3.out.next hb).next (below_box w5 (.cells #[.int .u16 x3,.int .u16 y3] 78)))
 clear hb c5
 have d0:=HQ4.out.ten.blk.cell 0 _ rfl
 have f0:=HQ4.out.ten.blk.frozen 0
 have d1:=HQ4.out.ten.blk.cell 1 _ rfl
 have f1:=HQ4.out.ten.blk.frozen 1
 have d2:=HQ4.out.ten.blk.cell 2 _ rfl
 have f2:=HQ4.out.ten.blk.frozen 2
 have d3:=HQ4.out.ten.blk.cell 3 _ rfl
 have f3:=HQ4.out.ten.blk.frozen 3
 have d4:=HQ4.out.ten.blk.cell 4 _ rfl
 have f4:=HQ4.out.ten.blk.frozen 4
 have d5:=HQ4.out.ten.blk.cell 5 _ rfl
 have f5:=HQ4.out.ten.blk.frozen 5
 have d6:=HQ4.out.ten.blk.cell 6 _ rfl
 have f6:=HQ4.out.ten.blk.frozen 6
 have d7:=HQ4.out.ten.blk.cell 7 _ rfl
 have f7:=HQ4.out.ten.blk.frozen 7
 have d8:=HQ4.out.ten.blk.cell 8 _ rfl
 have f8:=HQ4.out.ten.blk.frozen 8
 have d9:=HQ4.out.ten.blk.cell 9 _ rfl
 have f9:=HQ4.out.ten.blk.frozen 9
 go_wp2_with fail
 have HY:=Lib.hid (HQ4.out.ten.put (.bool false) (.int .u8 0) (.int .u32 0) (.int .i64 0) (.int .u32 0) (.int .i64 0) (.int .u16 0) (.int .u16 0) (.int .u16 0) (.int .u16 0))
 have r0:=HY.out.blk.cell 0 _ rfl
 have r1:=HY.out.blk.cell 1 _ rfl
 have r2:=HY.out.blk.cell 2 _ rfl
 have r3:=HY.out.blk.cell 3 _ rfl
 have r4:=HY.out.blk.cell 4 _ rfl
 have r5:=HY.out.blk.cell 5 _ rfl
 have r6:=HY.out.blk.cell 6 _ rfl
 have r7:=HY.out.blk.cell 7 _ rfl
 have r8:=HY.out.blk.cell 8 _ rfl
 have r9:=HY.out.blk.cell 9 _ rfl
 clear d0 d1 d2 d3 d4 d5 d6 d7 d8 d9 f0 f1 f2 f3 f4 f5 f6 f7 f8 f9
 exact bodyPost_ret (v:=ruleV none) (by simp [results,Tryz.results113,go_sem,ruleV,r0,r1,r2,r3,r4,r5,r6,r7,r8,r9]) rfl ⟨rfl,HY.out.bel⟩
set_option maxRecDepth 100000 in
set_option maxHeartbeats 2000000 in
theorem parse_ds1 (v p s sp d dp:List UInt8) (g cap:Nat) (w:World) (he:Env w) (hW:Wds g v p s sp d dp w) (hcap:6<=cap) (hcap2:cap<=9223372036854775807) (l2:s.length<=4096) (l3:sp.length<=4096) (l4:d.length<=4096) (l5:dp.length<=4096) (hA:(v == [97,99,99,101,112,116])=false) (hD:(v == [100,114,111,112])=true) (hK:protoB p=true) (x0 y0:Nat) (h0:netS s=some (x0,y0)) (h1:spanP sp=none) (x2 y2:Nat) (h2:netS d=some (x2,y2)) :
  Calls Tryz.prog 113 #[.slice (some ⟨g,0,none⟩) 6 cap] w fun e w'=>e = .returned (ruleV none)/\Below w.heap.size w w':=by
 have H0:=Lib.hid (fun W (h:Below w.heap.size w W)=>net_list s l2 W (he.ad.below h))
 rw [h0,netV_some] at H0
 have H1:=Lib.hid (fun W (h:Below w.heap.size w W)=>parseSpan_any sp l3 W (he.ad.below h))
 rw [h1,spanV_none] at H1
 have H2:=Lib.hid (fun W (h:Below w.heap.size w W)=>net_list d l4 W (he.ad.below h))
 rw [h2,netV_some] at H2
 have H3:=Lib.hid (fun W (h:Below w.heap.size w W)=>parseSpan_any dp l5 W (he.ad.below h))
 obtain ⟨x3,y3,z3,e3⟩:=spanV_form (spanP dp)
 rw [e3] at H3
 clear e3
 have HLK:=Lib.hid (fun W b hb=>look_list p W b hb)
 rw [hK] at HLK
 generalize protoN p=pn at *
 have HP0:Hid (PX w g v p s sp d dp (w.alloc (.cells zR 80))):=⟨TenAt.box w zR,hW.next (below_box _ _)⟩
 have hgl:=hW.lt
 clear he l2 l3 l4 l5 h0 h1 h2 hK hW
 have c0:=HP0.out.wds.c0
 have c1:=HP0.out.wds.c1
 go_enter Tryz.func113,Tryz.ntmps113
 go_wp2_with fail
 clear c0
 obtain ⟨W0,hW0⟩:∃ U,w.alloc (.cells zR 80)=U:=⟨_,rfl⟩
 unfold zR at hW0
 rw [hW0] at HP0 c1 ⊢
 clear hW0
 refine wp_region_held_drew (S:=(fun w'=>w'.cell? ⟨g,1,none⟩=some (.string ⟨p.toArray⟩)/\Hid (PX w g v p s sp d dp w'))) (by kernel_rfl) (⟨c1,HP0.out.next ((Below.refl _ _).drew)⟩) (fun hH=>?_)
 refine zqt 1 (some 24) ?v1 rfl rfl ?c1 hH ?r1
 case c1=>(intro w' _;go_simp;(try with_reducible rfl))
 try simp only [Act.put,zq1,zq2,zq3]
 refine zqt 2 (some 25) ?v2 rfl rfl ?c2 hH ?r2
 case c2=>(intro w' _;go_simp;(try with_reducible rfl))
 try simp only [Act.put,zq1,zq2,zq3]
 refine zqt 3 (some 26) ?v3 rfl rfl ?c3 hH ?r3
 case c3=>(intro w' hS;(try dsimp only at hS);go_simp;(try with_reducible rfl))
 try simp only [Act.put,zq1,zq2,zq3]
 refine wpAnyH_ready (rs:=[0]) (by kernel_rfl) (by simp) (AllReadyH.cons rfl (fun K hK=>?_) (AllReadyH.nil))
 go_simp
 go_at_call 160
 refine (protocols_any _).mono ?_
 rintro e w1 ⟨rfl,rfl⟩
 have HM:=Lib.hid (heap_alloc_new W0.drew (.map pm 4))
 have HPM:Hid (PX w g v p s sp d dp (W0.drew.alloc (.map pm 4))):=hH.2.out.next (below_box _ _)
 refine hK.out _ _ (⟨HPM.out.wds.c1,HPM⟩) (fun hH=>?_)
 clear hK K
 try simp only [Act.put,zq1,zq2,zq3]
 refine wpAnyH_ready (rs:=[4]) (by kernel_rfl) (by simp) (AllReadyH.cons rfl (fun K hK=>?_) (AllReadyH.nil))
 have hlk:=HLK.out ((W0.alloc (.map pm 4)).drew) W0.heap.size (heap_alloc_new W0 _)
 go_simp
 refine hK.out _ _ (hH) (fun hH=>?_)
 clear hK K
 clear hlk
 try simp only [Act.put,zq1,zq2,zq3]
 refine zqt 5 (some 22) ?v4 rfl rfl ?c4 hH ?r4
 case c4=>(intro w' _;go_simp;(try with_reducible rfl))
 try simp only [Act.put,zq1,zq2,zq3]
 refine zqt 6 (some 28) ?v5 rfl rfl ?c5 hH ?r5
 case c5=>(intro w' _;go_simp;(try with_reducible rfl))
 try simp only [Act.put,zq1,zq2,zq3]
 refine zqt 7 (some 29) ?v6 rfl rfl ?c6 hH ?r6
 case c6=>(intro w' _;go_simp;(try with_reducible rfl))
 try simp only [Act.put,zq1,zq2,zq3]
 refine zqt 8 (some 5) ?v7 rfl rfl ?c7 hH ?r7
 case c7=>(intro w' _;go_simp;(try with_reducible rfl))
 try simp only [Act.put,zq1,zq2,zq3]
 refine zqt 9 (some 6) ?v8 rfl rfl ?c8 hH ?r8
 case c8=>(intro w' _;go_simp;(try with_reducible rfl))
 try simp only [Act.put,zq1,zq2,zq3]
 refine wpAnyH_done (by kernel_rfl) ?_ _
 have HQ0:=Lib.hid hH.2.out
 clear hH HM HPM HP0
 try clear hlk
 have c2:=HQ0.out.wds.c2
 go_wp2_with fail
 go_at_call 161
 refine (H0.out _ HQ0.out.ten.bel).mono ?_
 rintro e w2 ⟨rfl,hb⟩
 have HQ1:=Lib.hid ((HQ0.out.next hb).next (below_box w2 (.cells #[.int .u32 (x0:Int),.int .i64 (y0:Int)] 75)))
 clear hb c2
 have c3:=HQ1.out.wds.c3
 go_wp2_with fail
 go_at_call 162
 refine (H1.out _ HQ1.out.ten.bel).mono ?_
 rintro e w3 ⟨rfl,hb⟩
 have HQ2:=Lib.hid ((HQ1.out.next hb).next (below_box w3 (.cells #[.int .u16 0,.int .u16 0] 78)))
 clear hb c3
 have c4:=HQ2.out.wds.c4
 go_wp2_with fail
 go_at_call 161
 refine (H2.out _ HQ2.out.ten.bel).mono ?_
 rintro e w4 ⟨rfl,hb⟩
 have HQ3:=Lib.hid ((HQ2.out.next hb).next (below_box w4 (.cells #[.int .u32 (x2:Int),.int .i64 (y2:Int)] 75)))
 clear hb c4
 have c5:=HQ3.out.wds.c5
 go_wp2_with fail
 go_at_call 162
 refine (H3.out _ HQ3.out.ten.bel).mono ?_
 rintro e w5 ⟨rfl,hb⟩
 have HQ4:=Lib.hid ((HQ3.out.next hb).next (below_box w5 (.cells #[.int .u16 x3,.int .u16 y3] 78)))
 clear hb c5
 have d0:=HQ4.out.ten.blk.cell 0 _ rfl
 have f0:=HQ4.out.ten.blk.frozen 0
 have d1:=HQ4.out.ten.blk.cell 1 _ rfl
 have f1:=HQ4.out.ten.blk.frozen 1
 have d2:=HQ4.out.ten.blk.cell 2 _ rfl
 have f2:=HQ4.out.ten.blk.frozen 2
 have d3:=HQ4.out.ten.blk.cell 3 _ rfl
 have f3:=HQ4.out.ten.blk.frozen 3
 have d4:=HQ4.out.ten.blk.cell 4 _ rfl
 have f4:=HQ4.out.ten.blk.frozen 4
 have d5:=HQ4.out.ten.blk.cell 5 _ rfl
 have f5:=HQ4.out.ten.blk.frozen 5
 have d6:=HQ4.out.ten.blk.cell 6 _ rfl
 have f6:=HQ4.out.ten.blk.frozen 6
 have d7:=HQ4.out.ten.blk.cell 7 _ rfl
 have f7:=HQ4.out.ten.blk.frozen 7
 have d8:=HQ4.out.ten.blk.cell 8 _ rfl
 have f8:=HQ4.out.ten.blk.frozen 8
 have d9:=HQ4.out.ten.blk.cell 9 _ rfl
 have f9:=HQ4.out.ten.blk.frozen 9
 go_wp2_with fail
 have HY:=Lib.hid (HQ4.out.ten.put (.bool false) (.int .u8 0) (.int .u32 0) (.int .i64 0) (.int .u32 0) (.int .i64 0) (.int .u16 0) (.int .u16 0) (.int .u16 0) (.int .u16 0))
 have r0:=HY.out.blk.cell 0 _ rfl
 have r1:=HY.out.blk.cell 1 _ rfl
 have r2:=HY.out.blk.cell 2 _ rfl
 have r3:=HY.out.blk.cell 3 _ rfl
 have r4:=HY.out.blk.cell 4 _ rfl
 have r5:=HY.out.blk.cell 5 _ rfl
 have r6:=HY.out.blk.cell 6 _ rfl
 have r7:=HY.out.blk.cell 7 _ rfl
 have r8:=HY.out.blk.cell 8 _ rfl
 have r9:=HY.out.blk.cell 9 _ rfl
 clear d0 d1 d2 d3 d4 d5 d6 d7 d8 d9 f0 f1 f2 f3 f4 f5 f6 f7 f8 f9
 exact bodyPost_ret (v:=ruleV none) (by simp [results,Tryz.results113,go_sem,ruleV,r0,r1,r2,r3,r4,r5,r6,r7,r8,r9]) rfl ⟨rfl,HY.out.bel⟩
set_option maxRecDepth 100000 in
set_option maxHeartbeats 2000000 in
theorem parse_ds2 (v p s sp d dp:List UInt8) (g cap:Nat) (w:World) (he:Env w) (hW:Wds g v p s sp d dp w) (hcap:6<=cap) (hcap2:cap<=9223372036854775807) (l2:s.length<=4096) (l3:sp.length<=4096) (l4:d.length<=4096) (l5:dp.length<=4096) (hA:(v == [97,99,99,101,112,116])=false) (hD:(v == [100,114,111,112])=true) (hK:protoB p=true) (x0 y0:Nat) (h0:netS s=some (x0,y0)) (x1 y1:Nat) (h1:spanP sp=some (x1,y1)) (x2 y2:Nat) (h2:netS d=some (x2,y2)) (h3:spanP dp=none) :
  Calls Tryz.prog 113 #[.slice (some ⟨g,0,none⟩) 6 cap] w fun e w'=>e = .returned (ruleV none)/\Below w.heap.size w w':=by
 have H0:=Lib.hid (fun W (h:Below w.heap.size w W)=>net_list s l2 W (he.ad.below h))
 rw [h0,netV_some] at H0
 have H1:=Lib.hid (fun W (h:Below w.heap.size w W)=>parseSpan_any sp l3 W (he.ad.below h))
 rw [h1,spanV_some] at H1
 have H2:=Lib.hid (fun W (h:Below w.heap.size w W)=>net_list d l4 W (he.ad.below h))
 rw [h2,netV_some] at H2
 have H3:=Lib.hid (fun W (h:Below w.heap.size w W)=>parseSpan_any dp l5 W (he.ad.below h))
 rw [h3,spanV_none] at H3
 have HLK:=Lib.hid (fun W b hb=>look_list p W b hb)
 rw [hK] at HLK
 generalize protoN p=pn at *
 have HP0:Hid (PX w g v p s sp d dp (w.alloc (.cells zR 80))):=⟨TenAt.box w zR,hW.next (below_box _ _)⟩
 have hgl:=hW.lt
 clear he l2 l3 l4 l5 h0 h1 h2 h3 hK hW
 have c0:=HP0.out.wds.c0
 have c1:=HP0.out.wds.c1
 go_enter Tryz.func113,Tryz.ntmps113
 go_wp2_with fail
 clear c0
 obtain ⟨W0,hW0⟩:∃ U,w.alloc (.cells zR 80)=U:=⟨_,rfl⟩
 unfold zR at hW0
 rw [hW0] at HP0 c1 ⊢
 clear hW0
 refine wp_region_held_drew (S:=(fun w'=>w'.cell? ⟨g,1,none⟩=some (.string ⟨p.toArray⟩)/\Hid (PX w g v p s sp d dp w'))) (by kernel_rfl) (⟨c1,HP0.out.next ((Below.refl _ _).drew)⟩) (fun hH=>?_)
 refine zqt 1 (some 24) ?v1 rfl rfl ?c1 hH ?r1
 case c1=>(intro w' _;go_simp;(try with_reducible rfl))
 try simp only [Act.put,zq1,zq2,zq3]
 refine zqt 2 (some 25) ?v2 rfl rfl ?c2 hH ?r2
 case c2=>(intro w' _;go_simp;(try with_reducible rfl))
 try simp only [Act.put,zq1,zq2,zq3]
 refine zqt 3 (some 26) ?v3 rfl rfl ?c3 hH ?r3
 case c3=>(intro w' hS;(try dsimp only at hS);go_simp;(try with_reducible rfl))
 try simp only [Act.put,zq1,zq2,zq3]
 refine wpAnyH_ready (rs:=[0]) (by kernel_rfl) (by simp) (AllReadyH.cons rfl (fun K hK=>?_) (AllReadyH.nil))
 go_simp
 go_at_call 160
 refine (protocols_any _).mono ?_
 rintro e w1 ⟨rfl,rfl⟩
 have HM:=Lib.hid (heap_alloc_new W0.drew (.map pm 4))
 have HPM:Hid (PX w g v p s sp d dp (W0.drew.alloc (.map pm 4))):=hH.2.out.next (below_box _ _)
 refine hK.out _ _ (⟨HPM.out.wds.c1,HPM⟩) (fun hH=>?_)
 clear hK K
 try simp only [Act.put,zq1,zq2,zq3]
 refine wpAnyH_ready (rs:=[4]) (by kernel_rfl) (by simp) (AllReadyH.cons rfl (fun K hK=>?_) (AllReadyH.nil))
 have hlk:=HLK.out ((W0.alloc (.map pm 4)).drew) W0.heap.size (heap_alloc_new W0 _)
 go_simp
 refine hK.out _ _ (hH) (fun hH=>?_)
 clear hK K
 clear hlk
 try simp only [Act.put,zq1,zq2,zq3]
 refine zqt 5 (some 22) ?v4 rfl rfl ?c4 hH ?r4
 case c4=>(intro w' _;go_simp;(try with_reducible rfl))
 try simp only [Act.put,zq1,zq2,zq3]
 refine zqt 6 (some 28) ?v5 rfl rfl ?c5 hH ?r5
 case c5=>(intro w' _;go_simp;(try with_reducible rfl))
 try simp only [Act.put,zq1,zq2,zq3]
 refine zqt 7 (some 29) ?v6 rfl rfl ?c6 hH ?r6
 case c6=>(intro w' _;go_simp;(try with_reducible rfl))
 try simp only [Act.put,zq1,zq2,zq3]
 refine zqt 8 (some 5) ?v7 rfl rfl ?c7 hH ?r7
 case c7=>(intro w' _;go_simp;(try with_reducible rfl))
 try simp only [Act.put,zq1,zq2,zq3]
 refine zqt 9 (some 6) ?v8 rfl rfl ?c8 hH ?r8
 case c8=>(intro w' _;go_simp;(try with_reducible rfl))
 try simp only [Act.put,zq1,zq2,zq3]
 refine wpAnyH_done (by kernel_rfl) ?_ _
 have HQ0:=Lib.hid hH.2.out
 clear hH HM HPM HP0
 try clear hlk
 have c2:=HQ0.out.wds.c2
 go_wp2_with fail
 go_at_call 161
 refine (H0.out _ HQ0.out.ten.bel).mono ?_
 rintro e w2 ⟨rfl,hb⟩
 have HQ1:=Lib.hid ((HQ0.out.next hb).next (below_box w2 (.cells #[.int .u32 (x0:Int),.int .i64 (y0:Int)] 75)))
 clear hb c2
 have c3:=HQ1.out.wds.c3
 go_wp2_with fail
 go_at_call 162
 refine (H1.out _ HQ1.out.ten.bel).mono ?_
 rintro e w3 ⟨rfl,hb⟩
 have HQ2:=Lib.hid ((HQ1.out.next hb).next (below_box w3 (.cells #[.int .u16 (x1:Int),.int .u16 (y1:Int)] 78)))
 clear hb c3
 have c4:=HQ2.out.wds.c4
 go_wp2_with fail
 go_at_call 161
 refine (H2.out _ HQ2.out.ten.bel).mono ?_
 rintro e w4 ⟨rfl,hb⟩
 have HQ3:=Lib.hid ((HQ2.out.next hb).next (below_box w4 (.cells #[.int .u32 (x2:Int),.int .i64 (y2:Int)] 75)))
 clear hb c4
 have c5:=HQ3.out.wds.c5
 go_wp2_with fail
 go_at_call 162
 refine (H3.out _ HQ3.out.ten.bel).mono ?_
 rintro e w5 ⟨rfl,hb⟩
 have HQ4:=Lib.hid ((HQ3.out.next hb).next (below_box w5 (.cells #[.int .u16 0,.int .u16 0] 78)))
 clear hb c5
 have d0:=HQ4.out.ten.blk.cell 0 _ rfl
 have f0:=HQ4.out.ten.blk.frozen 0
 have d1:=HQ4.out.ten.blk.cell 1 _ rfl
 have f1:=HQ4.out.ten.blk.frozen 1
 have d2:=HQ4.out.ten.blk.cell 2 _ rfl
 have f2:=HQ4.out.ten.blk.frozen 2
 have d3:=HQ4.out.ten.blk.cell 3 _ rfl
 have f3:=HQ4.out.ten.blk.frozen 3
 have d4:=HQ4.out.ten.blk.cell 4 _ rfl
 have f4:=HQ4.out.ten.blk.frozen 4
 have d5:=HQ4.out.ten.blk.cell 5 _ rfl
 have f5:=HQ4.out.ten.blk.frozen 5
 have d6:=HQ4.out.ten.blk.cell 6 _ rfl
 have f6:=HQ4.out.ten.blk.frozen 6
 have d7:=HQ4.out.ten.blk.cell 7 _ rfl
 have f7:=HQ4.out.ten.blk.frozen 7
 have d8:=HQ4.out.ten.blk.cell 8 _ rfl
 have f8:=HQ4.out.ten.blk.frozen 8
 have d9:=HQ4.out.ten.blk.cell 9 _ rfl
 have f9:=HQ4.out.ten.blk.frozen 9
 go_wp2_with fail
 have HY:=Lib.hid (HQ4.out.ten.put (.bool false) (.int .u8 0) (.int .u32 0) (.int .i64 0) (.int .u32 0) (.int .i64 0) (.int .u16 0) (.int .u16 0) (.int .u16 0) (.int .u16 0))
 have r0:=HY.out.blk.cell 0 _ rfl
 have r1:=HY.out.blk.cell 1 _ rfl
 have r2:=HY.out.blk.cell 2 _ rfl
 have r3:=HY.out.blk.cell 3 _ rfl
 have r4:=HY.out.blk.cell 4 _ rfl
 have r5:=HY.out.blk.cell 5 _ rfl
 have r6:=HY.out.blk.cell 6 _ rfl
 have r7:=HY.out.blk.cell 7 _ rfl
 have r8:=HY.out.blk.cell 8 _ rfl
 have r9:=HY.out.blk.cell 9 _ rfl
 clear d0 d1 d2 d3 d4 d5 d6 d7 d8 d9 f0 f1 f2 f3 f4 f5 f6 f7 f8 f9
 exact bodyPost_ret (v:=ruleV none) (by simp [results,Tryz.results113,go_sem,ruleV,r0,r1,r2,r3,r4,r5,r6,r7,r8,r9]) rfl ⟨rfl,HY.out.bel⟩
set_option maxRecDepth 100000 in
set_option maxHeartbeats 2000000 in
theorem parse_dy (v p s sp d dp:List UInt8) (g cap:Nat) (w:World) (he:Env w) (hW:Wds g v p s sp d dp w) (hcap:6<=cap) (hcap2:cap<=9223372036854775807) (l2:s.length<=4096) (l3:sp.length<=4096) (l4:d.length<=4096) (l5:dp.length<=4096) (hA:(v == [97,99,99,101,112,116])=false) (hD:(v == [100,114,111,112])=true) (hK:protoB p=true) (x0 y0:Nat) (h0:netS s=some (x0,y0)) (x1 y1:Nat) (h1:spanP sp=some (x1,y1)) (x2 y2:Nat) (h2:netS d=some (x2,y2)) (x3 y3:Nat) (h3:spanP dp=some (x3,y3)) :
  Calls Tryz.prog 113 #[.slice (some ⟨g,0,none⟩) 6 cap] w fun e w'=>e = .returned (ruleV (some ⟨false,protoN p,x0,(y0:Int),x2,(y2:Int),x1,y1,x3,y3⟩))/\Below w.heap.size w w':=by
 have H0:=Lib.hid (fun W (h:Below w.heap.size w W)=>net_list s l2 W (he.ad.below h))
 rw [h0,netV_some] at H0
 have H1:=Lib.hid (fun W (h:Below w.heap.size w W)=>parseSpan_any sp l3 W (he.ad.below h))
 rw [h1,spanV_some] at H1
 have H2:=Lib.hid (fun W (h:Below w.heap.size w W)=>net_list d l4 W (he.ad.below h))
 rw [h2,netV_some] at H2
 have H3:=Lib.hid (fun W (h:Below w.heap.size w W)=>parseSpan_any dp l5 W (he.ad.below h))
 rw [h3,spanV_some] at H3
 have HLK:=Lib.hid (fun W b hb=>look_list p W b hb)
 rw [hK] at HLK
 generalize protoN p=pn at *
 have HP0:Hid (PX w g v p s sp d dp (w.alloc (.cells zR 80))):=⟨TenAt.box w zR,hW.next (below_box _ _)⟩
 have hgl:=hW.lt
 clear he l2 l3 l4 l5 h0 h1 h2 h3 hK hW
 have c0:=HP0.out.wds.c0
 have c1:=HP0.out.wds.c1
 go_enter Tryz.func113,Tryz.ntmps113
 go_wp2_with fail
 clear c0
 obtain ⟨W0,hW0⟩:∃ U,w.alloc (.cells zR 80)=U:=⟨_,rfl⟩
 unfold zR at hW0
 rw [hW0] at HP0 c1 ⊢
 clear hW0
 refine wp_region_held_drew (S:=(fun w'=>w'.cell? ⟨g,1,none⟩=some (.string ⟨p.toArray⟩)/\Hid (PX w g v p s sp d dp w'))) (by kernel_rfl) (⟨c1,HP0.out.next ((Below.refl _ _).drew)⟩) (fun hH=>?_)
 refine zqt 1 (some 24) ?v1 rfl rfl ?c1 hH ?r1
 case c1=>(intro w' _;go_simp;(try with_reducible rfl))
 try simp only [Act.put,zq1,zq2,zq3]
 refine zqt 2 (some 25) ?v2 rfl rfl ?c2 hH ?r2
 case c2=>(intro w' _;go_simp;(try with_reducible rfl))
 try simp only [Act.put,zq1,zq2,zq3]
 refine zqt 3 (some 26) ?v3 rfl rfl ?c3 hH ?r3
 case c3=>(intro w' hS;(try dsimp only at hS);go_simp;(try with_reducible rfl))
 try simp only [Act.put,zq1,zq2,zq3]
 refine wpAnyH_ready (rs:=[0]) (by kernel_rfl) (by simp) (AllReadyH.cons rfl (fun K hK=>?_) (AllReadyH.nil))
 go_simp
 go_at_call 160
 refine (protocols_any _).mono ?_
 rintro e w1 ⟨rfl,rfl⟩
 have HM:=Lib.hid (heap_alloc_new W0.drew (.map pm 4))
 have HPM:Hid (PX w g v p s sp d dp (W0.drew.alloc (.map pm 4))):=hH.2.out.next (below_box _ _)
 refine hK.out _ _ (⟨HPM.out.wds.c1,HPM⟩) (fun hH=>?_)
 clear hK K
 try simp only [Act.put,zq1,zq2,zq3]
 refine wpAnyH_ready (rs:=[4]) (by kernel_rfl) (by simp) (AllReadyH.cons rfl (fun K hK=>?_) (AllReadyH.nil))
 have hlk:=HLK.out ((W0.alloc (.map pm 4)).drew) W0.heap.size (heap_alloc_new W0 _)
 go_simp
 refine hK.out _ _ (hH) (fun hH=>?_)
 clear hK K
 clear hlk
 try simp only [Act.put,zq1,zq2,zq3]
 refine zqt 5 (some 22) ?v4 rfl rfl ?c4 hH ?r4
 case c4=>(intro w' _;go_simp;(try with_reducible rfl))
 try simp only [Act.put,zq1,zq2,zq3]
 refine zqt 6 (some 28) ?v5 rfl rfl ?c5 hH ?r5
 case c5=>(intro w' _;go_simp;(try with_reducible rfl))
 try simp only [Act.put,zq1,zq2,zq3]
 refine zqt 7 (some 29) ?v6 rfl rfl ?c6 hH ?r6
 case c6=>(intro w' _;go_simp;(try with_reducible rfl))
 try simp only [Act.put,zq1,zq2,zq3]
 refine zqt 8 (some 5) ?v7 rfl rfl ?c7 hH ?r7
 case c7=>(intro w' _;go_simp;(try with_reducible rfl))
 try simp only [Act.put,zq1,zq2,zq3]
 refine zqt 9 (some 6) ?v8 rfl rfl ?c8 hH ?r8
 case c8=>(intro w' _;go_simp;(try with_reducible rfl))
 try simp only [Act.put,zq1,zq2,zq3]
 refine wpAnyH_done (by kernel_rfl) ?_ _
 have HQ0:=Lib.hid hH.2.out
 clear hH HM HPM HP0
 try clear hlk
 have c2:=HQ0.out.wds.c2
 go_wp2_with fail
 go_at_call 161
 refine (H0.out _ HQ0.out.ten.bel).mono ?_
 rintro e w2 ⟨rfl,hb⟩
 have HQ1:=Lib.hid ((HQ0.out.next hb).next (below_box w2 (.cells #[.int .u32 (x0:Int),.int .i64 (y0:Int)] 75)))
 have HC0:=Lib.hid (Blk.box w2 #[.int .u32 (x0:Int),.int .i64 (y0:Int)] 75)
 clear hb c2
 have c3:=HQ1.out.wds.c3
 go_wp2_with fail
 go_at_call 162
 refine (H1.out _ HQ1.out.ten.bel).mono ?_
 rintro e w3 ⟨rfl,hb⟩
 have HQ2:=Lib.hid ((HQ1.out.next hb).next (below_box w3 (.cells #[.int .u16 (x1:Int),.int .u16 (y1:Int)] 78)))
 have HC0:=Lib.hid ((HC0.out.next hb).next (below_box w3 (.cells #[.int .u16 (x1:Int),.int .u16 (y1:Int)] 78)))
 have HC1:=Lib.hid (Blk.box w3 #[.int .u16 (x1:Int),.int .u16 (y1:Int)] 78)
 clear hb c3
 have c4:=HQ2.out.wds.c4
 go_wp2_with fail
 go_at_call 161
 refine (H2.out _ HQ2.out.ten.bel).mono ?_
 rintro e w4 ⟨rfl,hb⟩
 have HQ3:=Lib.hid ((HQ2.out.next hb).next (below_box w4 (.cells #[.int .u32 (x2:Int),.int .i64 (y2:Int)] 75)))
 have HC0:=Lib.hid ((HC0.out.next hb).next (below_box w4 (.cells #[.int .u32 (x2:Int),.int .i64 (y2:Int)] 75)))
 have HC1:=Lib.hid ((HC1.out.next hb).next (below_box w4 (.cells #[.int .u32 (x2:Int),.int .i64 (y2:Int)] 75)))
 have HC2:=Lib.hid (Blk.box w4 #[.int .u32 (x2:Int),.int .i64 (y2:Int)] 75)
 clear hb c4
 have c5:=HQ3.out.wds.c5
 go_wp2_with fail
 go_at_call 162
 refine (H3.out _ HQ3.out.ten.bel).mono ?_
 rintro e w5 ⟨rfl,hb⟩
 have HQ4:=Lib.hid ((HQ3.out.next hb).next (below_box w5 (.cells #[.int .u16 (x3:Int),.int .u16 (y3:Int)] 78)))
 have HC0:=Lib.hid ((HC0.out.next hb).next (below_box w5 (.cells #[.int .u16 (x3:Int),.int .u16 (y3:Int)] 78)))
 have HC1:=Lib.hid ((HC1.out.next hb).next (below_box w5 (.cells #[.int .u16 (x3:Int),.int .u16 (y3:Int)] 78)))
 have HC2:=Lib.hid ((HC2.out.next hb).next (below_box w5 (.cells #[.int .u16 (x3:Int),.int .u16 (y3:Int)] 78)))
 have HC3:=Lib.hid (Blk.box w5 #[.int .u16 (x3:Int),.int .u16 (y3:Int)] 78)
 clear hb c5
 have d0:=HQ4.out.ten.blk.cell 0 _ rfl
 have f0:=HQ4.out.ten.blk.frozen 0
 have d1:=HQ4.out.ten.blk.cell 1 _ rfl
 have f1:=HQ4.out.ten.blk.frozen 1
 have d2:=HQ4.out.ten.blk.cell 2 _ rfl
 have f2:=HQ4.out.ten.blk.frozen 2
 have d3:=HQ4.out.ten.blk.cell 3 _ rfl
 have f3:=HQ4.out.ten.blk.frozen 3
 have d4:=HQ4.out.ten.blk.cell 4 _ rfl
 have f4:=HQ4.out.ten.blk.frozen 4
 have d5:=HQ4.out.ten.blk.cell 5 _ rfl
 have f5:=HQ4.out.ten.blk.frozen 5
 have d6:=HQ4.out.ten.blk.cell 6 _ rfl
 have f6:=HQ4.out.ten.blk.frozen 6
 have d7:=HQ4.out.ten.blk.cell 7 _ rfl
 have f7:=HQ4.out.ten.blk.frozen 7
 have d8:=HQ4.out.ten.blk.cell 8 _ rfl
 have f8:=HQ4.out.ten.blk.frozen 8
 have d9:=HQ4.out.ten.blk.cell 9 _ rfl
 have f9:=HQ4.out.ten.blk.frozen 9
 have k00:=HC0.out.cell 0 _ rfl
 have k01:=HC0.out.cell 1 _ rfl
 have k10:=HC1.out.cell 0 _ rfl
 have k11:=HC1.out.cell 1 _ rfl
 have k20:=HC2.out.cell 0 _ rfl
 have k21:=HC2.out.cell 1 _ rfl
 have k30:=HC3.out.cell 0 _ rfl
 have k31:=HC3.out.cell 1 _ rfl
 go_wp2_with fail
 have HY:=Lib.hid (HQ4.out.ten.put (.bool false) (.int .u8 (pn:Int)) (.int .u32 (x0:Int)) (.int .i64 (y0:Int)) (.int .u32 (x2:Int)) (.int .i64 (y2:Int)) (.int .u16 (x1:Int)) (.int .u16 (y1:Int)) (.int .u16 (x3:Int)) (.int .u16 (y3:Int)))
 have r0:=HY.out.blk.cell 0 _ rfl
 have r1:=HY.out.blk.cell 1 _ rfl
 have r2:=HY.out.blk.cell 2 _ rfl
 have r3:=HY.out.blk.cell 3 _ rfl
 have r4:=HY.out.blk.cell 4 _ rfl
 have r5:=HY.out.blk.cell 5 _ rfl
 have r6:=HY.out.blk.cell 6 _ rfl
 have r7:=HY.out.blk.cell 7 _ rfl
 have r8:=HY.out.blk.cell 8 _ rfl
 have r9:=HY.out.blk.cell 9 _ rfl
 clear d0 d1 d2 d3 d4 d5 d6 d7 d8 d9 f0 f1 f2 f3 f4 f5 f6 f7 f8 f9
 exact bodyPost_ret (v:=ruleV (some ⟨false,pn,x0,(y0:Int),x2,(y2:Int),x1,y1,x3,y3⟩)) (by simp [results,Tryz.results113,go_sem,ruleV,r0,r1,r2,r3,r4,r5,r6,r7,r8,r9]) rfl ⟨rfl,HY.out.bel⟩
end Ru
end Go.Proofs.YtcockldefmmhbaaGreatDoor
set_option linter.unusedVariables false
set_option maxRecDepth 100000
set_option linter.unusedSimpArgs false
namespace Go.Proofs.YtcockldefmmhbaaGreatDoor
open Go.ChangeShapes Go.WideShapes Go.ChangeAt Go.RowKit Go.Mtl Go.Shelf Go.Lib
namespace Ru
open RulM (R wordS known protoP spanS spanP parseW acceptL dropL)
open AdrM (anyL netS)
set_option maxRecDepth 100000 in
set_option maxHeartbeats 2000000 in
theorem parse_nov (v p s sp d dp:List UInt8) (g cap:Nat) (w:World) (he:Env w) (hW:Wds g v p s sp d dp w) (hcap:6<=cap) (hcap2:cap<=9223372036854775807) (l2:s.length<=4096) (l3:sp.length<=4096) (l4:d.length<=4096) (l5:dp.length<=4096) (hA:(v == [97,99,99,101,112,116])=false) (hD:(v == [100,114,111,112])=false) :
  Calls Tryz.prog 113 #[.slice (some ⟨g,0,none⟩) 6 cap] w fun e w'=>e = .returned (ruleV none)/\Below w.heap.size w w':=by
 have H0:=Lib.hid (fun W (h:Below w.heap.size w W)=>net_list s l2 W (he.ad.below h))
 obtain ⟨x0,y0,z0,e0⟩:=netV_form (netS s)
 rw [e0] at H0
 clear e0
 have H1:=Lib.hid (fun W (h:Below w.heap.size w W)=>parseSpan_any sp l3 W (he.ad.below h))
 obtain ⟨x1,y1,z1,e1⟩:=spanV_form (spanP sp)
 rw [e1] at H1
 clear e1
 have H2:=Lib.hid (fun W (h:Below w.heap.size w W)=>net_list d l4 W (he.ad.below h))
 obtain ⟨x2,y2,z2,e2⟩:=netV_form (netS d)
 rw [e2] at H2
 clear e2
 have H3:=Lib.hid (fun W (h:Below w.heap.size w W)=>parseSpan_any dp l5 W (he.ad.below h))
 obtain ⟨x3,y3,z3,e3⟩:=spanV_form (spanP dp)
 rw [e3] at H3
 clear e3
 have HLK:=Lib.hid (fun W b hb=>look_list p W b hb)
 generalize protoN p=pn at *
 generalize protoB p=pk at *
 have HP0:Hid (PX w g v p s sp d dp (w.alloc (.cells zR 80))):=⟨TenAt.box w zR,hW.next (below_box _ _)⟩
 have hgl:=hW.lt
 clear he l2 l3 l4 l5 hW
 have c0:=HP0.out.wds.c0
 have c1:=HP0.out.wds.c1
 go_enter Tryz.func113,Tryz.ntmps113
 go_wp2_with fail
 clear c0
 obtain ⟨W0,hW0⟩:∃ U,w.alloc (.cells zR 80)=U:=⟨_,rfl⟩
 unfold zR at hW0
 rw [hW0] at HP0 c1 ⊢
 clear hW0
 refine wp_region_held_drew (S:=(fun w'=>w'.cell? ⟨g,1,none⟩=some (.string ⟨p.toArray⟩)/\Hid (PX w g v p s sp d dp w'))) (by kernel_rfl) (⟨c1,HP0.out.next ((Below.refl _ _).drew)⟩) (fun hH=>?_)
 refine zqt 1 (some 24) ?v1 rfl rfl ?c1 hH ?r1
 case c1=>(intro w' _;go_simp;(try with_reducible rfl))
 try simp only [Act.put,zq1,zq2,zq3]
 refine zqt 2 (some 25) ?v2 rfl rfl ?c2 hH ?r2
 case c2=>(intro w' _;go_simp;(try with_reducible rfl))
 try simp only [Act.put,zq1,zq2,zq3]
 refine zqt 3 (some 26) ?v3 rfl rfl ?c3 hH ?r3
 case c3=>(intro w' hS;(try dsimp only at hS);go_simp;(try with_reducible rfl))
 try simp only [Act.put,zq1,zq2,zq3]
 refine wpAnyH_ready (rs:=[0]) (by kernel_rfl) (by simp) (AllReadyH.cons rfl (fun K hK=>?_) (AllReadyH.nil))
 go_simp
 go_at_call 160
 refine (protocols_any _).mono ?_
 rintro e w1 ⟨rfl,rfl⟩
 have HM:=Lib.hid (heap_alloc_new W0.drew (.map pm 4))
 have HPM:Hid (PX w g v p s sp d dp (W0.drew.alloc (.map pm 4))):=hH.2.out.next (below_box _ _)
 refine hK.out _ _ (⟨HPM.out.wds.c1,HPM⟩) (fun hH=>?_)
 clear hK K
 try simp only [Act.put,zq1,zq2,zq3]
 refine wpAnyH_ready (rs:=[4]) (by kernel_rfl) (by simp) (AllReadyH.cons rfl (fun K hK=>?_) (AllReadyH.nil))
 have hlk:=HLK.out ((W0.alloc (.map pm 4)).drew) W0.heap.size (heap_alloc_new W0 _)
 go_simp
 refine hK.out _ _ (hH) (fun hH=>?_)
 clear hK K
 clear hlk
 try simp only [Act.put,zq1,zq2,zq3]
 refine zqt 5 (some 22) ?v4 rfl rfl ?c4 hH ?r4
 case c4=>(intro w' _;go_simp;(try with_reducible rfl))
 try simp only [Act.put,zq1,zq2,zq3]
 refine zqt 6 (some 28) ?v5 rfl rfl ?c5 hH ?r5
 case c5=>(intro w' _;go_simp;(try with_reducible rfl))
 try simp only [Act.put,zq1,zq2,zq3]
 refine zqt 7 (some 29) ?v6 rfl rfl ?c6 hH ?r6
 case c6=>(intro w' _;go_simp;(try with_reducible rfl))
 try simp only [Act.put,zq1,zq2,zq3]
 refine zqt 8 (some 5) ?v7 rfl rfl ?c7 hH ?r7
 case c7=>(intro w' _;go_simp;(try with_reducible rfl))
 try simp only [Act.put,zq1,zq2,zq3]
 refine zqt 9 (some 6) ?v8 rfl rfl ?c8 hH ?r8
 case c8=>(intro w' _;go_simp;(try with_reducible rfl))
 try simp only [Act.put,zq1,zq2,zq3]
 refine wpAnyH_done (by kernel_rfl) ?_ _
 have HQ0:=Lib.hid hH.2.out
 clear hH HM HPM HP0
 try clear hlk
 have c2:=HQ0.out.wds.c2
 go_wp2_with fail
 go_at_call 161
 refine (H0.out _ HQ0.out.ten.bel).mono ?_
 rintro e w2 ⟨rfl,hb⟩
 have HQ1:=Lib.hid ((HQ0.out.next hb).next (below_box w2 (.cells #[.int .u32 x0,.int .i64 y0] 75)))
 clear hb c2
 have c3:=HQ1.out.wds.c3
 go_wp2_with fail
 go_at_call 162
 refine (H1.out _ HQ1.out.ten.bel).mono ?_
 rintro e w3 ⟨rfl,hb⟩
 have HQ2:=Lib.hid ((HQ1.out.next hb).next (below_box w3 (.cells #[.int .u16 x1,.int .u16 y1] 78)))
 clear hb c3
 have c4:=HQ2.out.wds.c4
 go_wp2_with fail
 go_at_call 161
 refine (H2.out _ HQ2.out.ten.bel).mono ?_
 rintro e w4 ⟨rfl,hb⟩
 have HQ3:=Lib.hid ((HQ2.out.next hb).next (below_box w4 (.cells #[.int .u32 x2,.int .i64 y2] 75)))
 clear hb c4
 have c5:=HQ3.out.wds.c5
 go_wp2_with fail
 go_at_call 162
 refine (H3.out _ HQ3.out.ten.bel).mono ?_
 rintro e w5 ⟨rfl,hb⟩
 have HQ4:=Lib.hid ((HQ3.out.next hb).next (below_box w5 (.cells #[.int .u16 x3,.int .u16 y3] 78)))
 clear hb c5
 have d0:=HQ4.out.ten.blk.cell 0 _ rfl
 have f0:=HQ4.out.ten.blk.frozen 0
 have d1:=HQ4.out.ten.blk.cell 1 _ rfl
 have f1:=HQ4.out.ten.blk.frozen 1
 have d2:=HQ4.out.ten.blk.cell 2 _ rfl
 have f2:=HQ4.out.ten.blk.frozen 2
 have d3:=HQ4.out.ten.blk.cell 3 _ rfl
 have f3:=HQ4.out.ten.blk.frozen 3
 have d4:=HQ4.out.ten.blk.cell 4 _ rfl
 have f4:=HQ4.out.ten.blk.frozen 4
 have d5:=HQ4.out.ten.blk.cell 5 _ rfl
 have f5:=HQ4.out.ten.blk.frozen 5
 have d6:=HQ4.out.ten.blk.cell 6 _ rfl
 have f6:=HQ4.out.ten.blk.frozen 6
 have d7:=HQ4.out.ten.blk.cell 7 _ rfl
 have f7:=HQ4.out.ten.blk.frozen 7
 have d8:=HQ4.out.ten.blk.cell 8 _ rfl
 have f8:=HQ4.out.ten.blk.frozen 8
 have d9:=HQ4.out.ten.blk.cell 9 _ rfl
 have f9:=HQ4.out.ten.blk.frozen 9
 go_wp2_with fail
 have HY:=Lib.hid (HQ4.out.ten.put (.bool false) (.int .u8 0) (.int .u32 0) (.int .i64 0) (.int .u32 0) (.int .i64 0) (.int .u16 0) (.int .u16 0) (.int .u16 0) (.int .u16 0))
 have r0:=HY.out.blk.cell 0 _ rfl
 have r1:=HY.out.blk.cell 1 _ rfl
 have r2:=HY.out.blk.cell 2 _ rfl
 have r3:=HY.out.blk.cell 3 _ rfl
 have r4:=HY.out.blk.cell 4 _ rfl
 have r5:=HY.out.blk.cell 5 _ rfl
 have r6:=HY.out.blk.cell 6 _ rfl
 have r7:=HY.out.blk.cell 7 _ rfl
 have r8:=HY.out.blk.cell 8 _ rfl
 have r9:=HY.out.blk.cell 9 _ rfl
 clear d0 d1 d2 d3 d4 d5 d6 d7 d8 d9 f0 f1 f2 f3 f4 f5 f6 f7 f8 f9
 exact bodyPost_ret (v:=ruleV none) (by simp [results,Tryz.results113,go_sem,ruleV,r0,r1,r2,r3,r4,r5,r6,r7,r8,r9]) rfl ⟨rfl,HY.out.bel⟩
set_option maxRecDepth 100000 in
set_option maxHeartbeats 2000000 in
theorem parse_ak (v p s sp d dp:List UInt8) (g cap:Nat) (w:World) (he:Env w) (hW:Wds g v p s sp d dp w) (hcap:6<=cap) (hcap2:cap<=9223372036854775807) (l2:s.length<=4096) (l3:sp.length<=4096) (l4:d.length<=4096) (l5:dp.length<=4096) (hA:(v == [97,99,99,101,112,116])=true) (hK:protoB p=false) :
  Calls Tryz.prog 113 #[.slice (some ⟨g,0,none⟩) 6 cap] w fun e w'=>e = .returned (ruleV none)/\Below w.heap.size w w':=by
 have H0:=Lib.hid (fun W (h:Below w.heap.size w W)=>net_list s l2 W (he.ad.below h))
 obtain ⟨x0,y0,z0,e0⟩:=netV_form (netS s)
 rw [e0] at H0
 clear e0
 have H1:=Lib.hid (fun W (h:Below w.heap.size w W)=>parseSpan_any sp l3 W (he.ad.below h))
 obtain ⟨x1,y1,z1,e1⟩:=spanV_form (spanP sp)
 rw [e1] at H1
 clear e1
 have H2:=Lib.hid (fun W (h:Below w.heap.size w W)=>net_list d l4 W (he.ad.below h))
 obtain ⟨x2,y2,z2,e2⟩:=netV_form (netS d)
 rw [e2] at H2
 clear e2
 have H3:=Lib.hid (fun W (h:Below w.heap.size w W)=>parseSpan_any dp l5 W (he.ad.below h))
 obtain ⟨x3,y3,z3,e3⟩:=spanV_form (spanP dp)
 rw [e3] at H3
 clear e3
 have HLK:=Lib.hid (fun W b hb=>look_list p W b hb)
 rw [hK] at HLK
 generalize protoN p=pn at *
 have HP0:Hid (PX w g v p s sp d dp (w.alloc (.cells zR 80))):=⟨TenAt.box w zR,hW.next (below_box _ _)⟩
 have hgl:=hW.lt
 clear he l2 l3 l4 l5 hK hW
 have c0:=HP0.out.wds.c0
 have c1:=HP0.out.wds.c1
 go_enter Tryz.func113,Tryz.ntmps113
 go_wp2_with fail
 clear c0
 obtain ⟨W0,hW0⟩:∃ U,w.alloc (.cells zR 80)=U:=⟨_,rfl⟩
 unfold zR at hW0
 rw [hW0] at HP0 c1 ⊢
 clear hW0
 refine wp_region_held_drew (S:=(fun w'=>w'.cell? ⟨g,1,none⟩=some (.string ⟨p.toArray⟩)/\Hid (PX w g v p s sp d dp w'))) (by kernel_rfl) (⟨c1,HP0.out.next ((Below.refl _ _).drew)⟩) (fun hH=>?_)
 refine zqt 1 (some 24) ?v1 rfl rfl ?c1 hH ?r1
 case c1=>(intro w' _;go_simp;(try with_reducible rfl))
 try simp only [Act.put,zq1,zq2,zq3]
 refine zqt 2 (some 25) ?v2 rfl rfl ?c2 hH ?r2
 case c2=>(intro w' _;go_simp;(try with_reducible rfl))
 try simp only [Act.put,zq1,zq2,zq3]
 refine zqt 3 (some 26) ?v3 rfl rfl ?c3 hH ?r3
 case c3=>(intro w' hS;(try dsimp only at hS);go_simp;(try with_reducible rfl))
 try simp only [Act.put,zq1,zq2,zq3]
 refine wpAnyH_ready (rs:=[0]) (by kernel_rfl) (by simp) (AllReadyH.cons rfl (fun K hK=>?_) (AllReadyH.nil))
 go_simp
 go_at_call 160
 refine (protocols_any _).mono ?_
 rintro e w1 ⟨rfl,rfl⟩
 have HM:=Lib.hid (heap_alloc_new W0.drew (.map pm 4))
 have HPM:Hid (PX w g v p s sp d dp (W0.drew.alloc (.map pm 4))):=hH.2.out.next (below_box _ _)
 refine hK.out _ _ (⟨HPM.out.wds.c1,HPM⟩) (fun hH=>?_)
 clear hK K
 try simp only [Act.put,zq1,zq2,zq3]
 refine wpAnyH_ready (rs:=[4]) (by kernel_rfl) (by simp) (AllReadyH.cons rfl (fun K hK=>?_) (AllReadyH.nil))
 have hlk:=HLK.out ((W0.alloc (.map pm 4)).drew) W0.heap.size (heap_alloc_new W0 _)
 go_simp
 refine hK.out _ _ (hH) (fun hH=>?_)
 clear hK K
 clear hlk
 try simp only [Act.put,zq1,zq2,zq3]
 refine zqt 5 (some 22) ?v4 rfl rfl ?c4 hH ?r4
 case c4=>(intro w' _;go_simp;(try with_reducible rfl))
 try simp only [Act.put,zq1,zq2,zq3]
 refine zqt 6 (some 28) ?v5 rfl rfl ?c5 hH ?r5
 case c5=>(intro w' _;go_simp;(try with_reducible rfl))
 try simp only [Act.put,zq1,zq2,zq3]
 refine zqt 7 (some 29) ?v6 rfl rfl ?c6 hH ?r6
 case c6=>(intro w' _;go_simp;(try with_reducible rfl))
 try simp only [Act.put,zq1,zq2,zq3]
 refine zqt 8 (some 5) ?v7 rfl rfl ?c7 hH ?r7
 case c7=>(intro w' _;go_simp;(try with_reducible rfl))
 try simp only [Act.put,zq1,zq2,zq3]
 refine zqt 9 (some 6) ?v8 rfl rfl ?c8 hH ?r8
 case c8=>(intro w' _;go_simp;(try with_reducible rfl))
 try simp only [Act.put,zq1,zq2,zq3]
 refine wpAnyH_done (by kernel_rfl) ?_ _
 have HQ0:=Lib.hid hH.2.out
 clear hH HM HPM HP0
 try clear hlk
 have c2:=HQ0.out.wds.c2
 go_wp2_with fail
 go_at_call 161
 refine (H0.out _ HQ0.out.ten.bel).mono ?_
 rintro e w2 ⟨rfl,hb⟩
 have HQ1:=Lib.hid ((HQ0.out.next hb).next (below_box w2 (.cells #[.int .u32 x0,.int .i64 y0] 75)))
 clear hb c2
 have c3:=HQ1.out.wds.c3
 go_wp2_with fail
 go_at_call 162
 refine (H1.out _ HQ1.out.ten.bel).mono ?_
 rintro e w3 ⟨rfl,hb⟩
 have HQ2:=Lib.hid ((HQ1.out.next hb).next (below_box w3 (.cells #[.int .u16 x1,.int .u16 y1] 78)))
 clear hb c3
 have c4:=HQ2.out.wds.c4
 go_wp2_with fail
 go_at_call 161
 refine (H2.out _ HQ2.out.ten.bel).mono ?_
 rintro e w4 ⟨rfl,hb⟩
 have HQ3:=Lib.hid ((HQ2.out.next hb).next (below_box w4 (.cells #[.int .u32 x2,.int .i64 y2] 75)))
 clear hb c4
 have c5:=HQ3.out.wds.c5
 go_wp2_with fail
 go_at_call 162
 refine (H3.out _ HQ3.out.ten.bel).mono ?_
 rintro e w5 ⟨rfl,hb⟩
 have HQ4:=Lib.hid ((HQ3.out.next hb).next (below_box w5 (.cells #[.int .u16 x3,.int .u16 y3] 78)))
 clear hb c5
 have d0:=HQ4.out.ten.blk.cell 0 _ rfl
 have f0:=HQ4.out.ten.blk.frozen 0
 have d1:=HQ4.out.ten.blk.cell 1 _ rfl
 have f1:=HQ4.out.ten.blk.frozen 1
 have d2:=HQ4.out.ten.blk.cell 2 _ rfl
 have f2:=HQ4.out.ten.blk.frozen 2
 have d3:=HQ4.out.ten.blk.cell 3 _ rfl
 have f3:=HQ4.out.ten.blk.frozen 3
 have d4:=HQ4.out.ten.blk.cell 4 _ rfl
 have f4:=HQ4.out.ten.blk.frozen 4
 have d5:=HQ4.out.ten.blk.cell 5 _ rfl
 have f5:=HQ4.out.ten.blk.frozen 5
 have d6:=HQ4.out.ten.blk.cell 6 _ rfl
 have f6:=HQ4.out.ten.blk.frozen 6
 have d7:=HQ4.out.ten.blk.cell 7 _ rfl
 have f7:=HQ4.out.ten.blk.frozen 7
 have d8:=HQ4.out.ten.blk.cell 8 _ rfl
 have f8:=HQ4.out.ten.blk.frozen 8
 have d9:=HQ4.out.ten.blk.cell 9 _ rfl
 have f9:=HQ4.out.ten.blk.frozen 9
 go_wp2_with fail
 have HY:=Lib.hid (HQ4.out.ten.put (.bool false) (.int .u8 0) (.int .u32 0) (.int .i64 0) (.int .u32 0) (.int .i64 0) (.int .u16 0) (.int .u16 0) (.int .u16 0) (.int .u16 0))
 have r0:=HY.out.blk.cell 0 _ rfl
 have r1:=HY.out.blk.cell 1 _ rfl
 have r2:=HY.out.blk.cell 2 _ rfl
 have r3:=HY.out.blk.cell 3 _ rfl
 have r4:=HY.out.blk.cell 4 _ rfl
 have r5:=HY.out.blk.cell 5 _ rfl
 have r6:=HY.out.blk.cell 6 _ rfl
 have r7:=HY.out.blk.cell 7 _ rfl
 have r8:=HY.out.blk.cell 8 _ rfl
 have r9:=HY.out.blk.cell 9 _ rfl
 clear d0 d1 d2 d3 d4 d5 d6 d7 d8 d9 f0 f1 f2 f3 f4 f5 f6 f7 f8 f9
 exact bodyPost_ret (v:=ruleV none) (by simp [results,Tryz.results113,go_sem,ruleV,r0,r1,r2,r3,r4,r5,r6,r7,r8,r9]) rfl ⟨rfl,HY.out.bel⟩
set_option maxRecDepth 100000 in
set_option maxHeartbeats 2000000 in
theorem parse_an1 (v p s sp d dp:List UInt8) (g cap:Nat) (w:World) (he:Env w) (hW:Wds g v p s sp d dp w) (hcap:6<=cap) (hcap2:cap<=9223372036854775807) (l2:s.length<=4096) (l3:sp.length<=4096) (l4:d.length<=4096) (l5:dp.length<=4096) (hA:(v == [97,99,99,101,112,116])=true) (hK:protoB p=true) (h0:netS s=none) :
  Calls Tryz.prog 113 #[.slice (some ⟨g,0,none⟩) 6 cap] w fun e w'=>e = .returned (ruleV none)/\Below w.heap.size w w':=by
 have H0:=Lib.hid (fun W (h:Below w.heap.size w W)=>net_list s l2 W (he.ad.below h))
 rw [h0,netV_none] at H0
 have H1:=Lib.hid (fun W (h:Below w.heap.size w W)=>parseSpan_any sp l3 W (he.ad.below h))
 obtain ⟨x1,y1,z1,e1⟩:=spanV_form (spanP sp)
 rw [e1] at H1
 clear e1
 have H2:=Lib.hid (fun W (h:Below w.heap.size w W)=>net_list d l4 W (he.ad.below h))
 obtain ⟨x2,y2,z2,e2⟩:=netV_form (netS d)
 rw [e2] at H2
 clear e2
 have H3:=Lib.hid (fun W (h:Below w.heap.size w W)=>parseSpan_any dp l5 W (he.ad.below h))
 obtain ⟨x3,y3,z3,e3⟩:=spanV_form (spanP dp)
 rw [e3] at H3
 clear e3
 have HLK:=Lib.hid (fun W b hb=>look_list p W b hb)
 rw [hK] at HLK
 generalize protoN p=pn at *
 have HP0:Hid (PX w g v p s sp d dp (w.alloc (.cells zR 80))):=⟨TenAt.box w zR,hW.next (below_box _ _)⟩
 have hgl:=hW.lt
 clear he l2 l3 l4 l5 h0 hK hW
 have c0:=HP0.out.wds.c0
 have c1:=HP0.out.wds.c1
 go_enter Tryz.func113,Tryz.ntmps113
 go_wp2_with fail
 clear c0
 obtain ⟨W0,hW0⟩:∃ U,w.alloc (.cells zR 80)=U:=⟨_,rfl⟩
 unfold zR at hW0
 rw [hW0] at HP0 c1 ⊢
 clear hW0
 refine wp_region_held_drew (S:=(fun w'=>w'.cell? ⟨g,1,none⟩=some (.string ⟨p.toArray⟩)/\Hid (PX w g v p s sp d dp w'))) (by kernel_rfl) (⟨c1,HP0.out.next ((Below.refl _ _).drew)⟩) (fun hH=>?_)
 refine zqt 1 (some 24) ?v1 rfl rfl ?c1 hH ?r1
 case c1=>(intro w' _;go_simp;(try with_reducible rfl))
 try simp only [Act.put,zq1,zq2,zq3]
 refine zqt 2 (some 25) ?v2 rfl rfl ?c2 hH ?r2
 case c2=>(intro w' _;go_simp;(try with_reducible rfl))
 try simp only [Act.put,zq1,zq2,zq3]
 refine zqt 3 (some 26) ?v3 rfl rfl ?c3 hH ?r3
 case c3=>(intro w' hS;(try dsimp only at hS);go_simp;(try with_reducible rfl))
 try simp only [Act.put,zq1,zq2,zq3]
 refine wpAnyH_ready (rs:=[0]) (by kernel_rfl) (by simp) (AllReadyH.cons rfl (fun K hK=>?_) (AllReadyH.nil))
 go_simp
 go_at_call 160
 refine (protocols_any _).mono ?_
 rintro e w1 ⟨rfl,rfl⟩
 have HM:=Lib.hid (heap_alloc_new W0.drew (.map pm 4))
 have HPM:Hid (PX w g v p s sp d dp (W0.drew.alloc (.map pm 4))):=hH.2.out.next (below_box _ _)
 refine hK.out _ _ (⟨HPM.out.wds.c1,HPM⟩) (fun hH=>?_)
 clear hK K
 try simp only [Act.put,zq1,zq2,zq3]
 refine wpAnyH_ready (rs:=[4]) (by kernel_rfl) (by simp) (AllReadyH.cons rfl (fun K hK=>?_) (AllReadyH.nil))
 have hlk:=HLK.out ((W0.alloc (.map pm 4)).drew) W0.heap.size (heap_alloc_new W0 _)
 go_simp
 refine hK.out _ _ (hH) (fun hH=>?_)
 clear hK K
 clear hlk
 try simp only [Act.put,zq1,zq2,zq3]
 refine zqt 5 (some 22) ?v4 rfl rfl ?c4 hH ?r4
 case c4=>(intro w' _;go_simp;(try with_reducible rfl))
 try simp only [Act.put,zq1,zq2,zq3]
 refine zqt 6 (some 28) ?v5 rfl rfl ?c5 hH ?r5
 case c5=>(intro w' _;go_simp;(try with_reducible rfl))
 try simp only [Act.put,zq1,zq2,zq3]
 refine zqt 7 (some 29) ?v6 rfl rfl ?c6 hH ?r6
 case c6=>(intro w' _;go_simp;(try with_reducible rfl))
 try simp only [Act.put,zq1,zq2,zq3]
 refine zqt 8 (some 5) ?v7 rfl rfl ?c7 hH ?r7
 case c7=>(intro w' _;go_simp;(try with_reducible rfl))
 try simp only [Act.put,zq1,zq2,zq3]
 refine zqt 9 (some 6) ?v8 rfl rfl ?c8 hH ?r8
 case c8=>(intro w' _;go_simp;(try with_reducible rfl))
 try simp only [Act.put,zq1,zq2,zq3]
 refine wpAnyH_done (by kernel_rfl) ?_ _
 have HQ0:=Lib.hid hH.2.out
 clear hH HM HPM HP0
 try clear hlk
 have c2:=HQ0.out.wds.c2
 go_wp2_with fail
 go_at_call 161
 refine (H0.out _ HQ0.out.ten.bel).mono ?_
 rintro e w2 ⟨rfl,hb⟩
 have HQ1:=Lib.hid ((HQ0.out.next hb).next (below_box w2 (.cells #[.int .u32 0,.int .i64 0] 75)))
 clear hb c2
 have c3:=HQ1.out.wds.c3
 go_wp2_with fail
 go_at_call 162
 refine (H1.out _ HQ1.out.ten.bel).mono ?_
 rintro e w3 ⟨rfl,hb⟩
 have HQ2:=Lib.hid ((HQ1.out.next hb).next (below_box w3 (.cells #[.int .u16 x1,.int .u16 y1] 78)))
 clear hb c3
 have c4:=HQ2.out.wds.c4
 go_wp2_with fail
 go_at_call 161
 refine (H2.out _ HQ2.out.ten.bel).mono ?_
 rintro e w4 ⟨rfl,hb⟩
 have HQ3:=Lib.hid ((HQ2.out.next hb).next (below_box w4 (.cells #[.int .u32 x2,.int .i64 y2] 75)))
 clear hb c4
 have c5:=HQ3.out.wds.c5
 go_wp2_with fail
 go_at_call 162
 refine (H3.out _ HQ3.out.ten.bel).mono ?_
 rintro e w5 ⟨rfl,hb⟩
 have HQ4:=Lib.hid ((HQ3.out.next hb).next (below_box w5 (.cells #[.int .u16 x3,.int .u16 y3] 78)))
 clear hb c5
 have d0:=HQ4.out.ten.blk.cell 0 _ rfl
 have f0:=HQ4.out.ten.blk.frozen 0
 have d1:=HQ4.out.ten.blk.cell 1 _ rfl
 have f1:=HQ4.out.ten.blk.frozen 1
 have d2:=HQ4.out.ten.blk.cell 2 _ rfl
 have f2:=HQ4.out.ten.blk.frozen 2
 have d3:=HQ4.out.ten.blk.cell 3 _ rfl
 have f3:=HQ4.out.ten.blk.frozen 3
 have d4:=HQ4.out.ten.blk.cell 4 _ rfl
 have f4:=HQ4.out.ten.blk.frozen 4
 have d5:=HQ4.out.ten.blk.cell 5 _ rfl
 have f5:=HQ4.out.ten.blk.frozen 5
 have d6:=HQ4.out.ten.blk.cell 6 _ rfl
 have f6:=HQ4.out.ten.blk.frozen 6
 have d7:=HQ4.out.ten.blk.cell 7 _ rfl
 have f7:=HQ4.out.ten.blk.frozen 7
 have d8:=HQ4.out.ten.blk.cell 8 _ rfl
 have f8:=HQ4.out.ten.blk.frozen 8
 have d9:=HQ4.out.ten.blk.cell 9 _ rfl
 have f9:=HQ4.out.ten.blk.frozen 9
 go_wp2_with fail
 have HY:=Lib.hid (HQ4.out.ten.put (.bool false) (.int .u8 0) (.int .u32 0) (.int .i64 0) (.int .u32 0) (.int .i64 0) (.int .u16 0) (.int .u16 0) (.int .u16 0) (.int .u16 0))
 have r0:=HY.out.blk.cell 0 _ rfl
 have r1:=HY.out.blk.cell 1 _ rfl
 have r2:=HY.out.blk.cell 2 _ rfl
 have r3:=HY.out.blk.cell 3 _ rfl
 have r4:=HY.out.blk.cell 4 _ rfl
 have r5:=HY.out.blk.cell 5 _ rfl
 have r6:=HY.out.blk.cell 6 _ rfl
 have r7:=HY.out.blk.cell 7 _ rfl
 have r8:=HY.out.blk.cell 8 _ rfl
 have r9:=HY.out.blk.cell 9 _ rfl
 clear d0 d1 d2 d3 d4 d5 d6 d7 d8 d9 f0 f1 f2 f3 f4 f5 f6 f7 f8 f9
 exact bodyPost_ret (v:=ruleV none) (by simp [results,Tryz.results113,go_sem,ruleV,r0,r1,r2,r3,r4,r5,r6,r7,r8,r9]) rfl ⟨rfl,HY.out.bel⟩
set_option maxRecDepth 100000 in
set_option maxHeartbeats 2000000 in
theorem parse_an2 (v p s sp d dp:List UInt8) (g cap:Nat) (w:World) (he:Env w) (hW:Wds g v p s sp d dp w) (hcap:6<=cap) (hcap2:cap<=9223372036854775807) (l2:s.length<=4096) (l3:sp.length<=4096) (l4:d.length<=4096) (l5:dp.length<=4096) (hA:(v == [97,99,99,101,112,116])=true) (hK:protoB p=true) (x0 y0:Nat) (h0:netS s=some (x0,y0)) (h2:netS d=none) :
  Calls Tryz.prog 113 #[.slice (some ⟨g,0,none⟩) 6 cap] w fun e w'=>e = .returned (ruleV none)/\Below w.heap.size w w':=by
 have H0:=Lib.hid (fun W (h:Below w.heap.size w W)=>net_list s l2 W (he.ad.below h))
 rw [h0,netV_some] at H0
 have H1:=Lib.hid (fun W (h:Below w.heap.size w W)=>parseSpan_any sp l3 W (he.ad.below h))
 obtain ⟨x1,y1,z1,e1⟩:=spanV_form (spanP sp)
 rw [e1] at H1
 clear e1
 have H2:=Lib.hid (fun W (h:Below w.heap.size w W)=>net_list d l4 W (he.ad.below h))
 rw [h2,netV_none] at H2
 have H3:=Lib.hid (fun W (h:Below w.heap.size w W)=>parseSpan_any dp l5 W (he.ad.below h))
 obtain ⟨x3,y3,z3,e3⟩:=spanV_form (spanP dp)
 rw [e3] at H3
 clear e3
 have HLK:=Lib.hid (fun W b hb=>look_list p W b hb)
 rw [hK] at HLK
 generalize protoN p=pn at *
 have HP0:Hid (PX w g v p s sp d dp (w.alloc (.cells zR 80))):=⟨TenAt.box w zR,hW.next (below_box _ _)⟩
 have hgl:=hW.lt
 clear he l2 l3 l4 l5 h0 h2 hK hW
 have c0:=HP0.out.wds.c0
 have c1:=HP0.out.wds.c1
 go_enter Tryz.func113,Tryz.ntmps113
 go_wp2_with fail
 clear c0
 obtain ⟨W0,hW0⟩:∃ U,w.alloc (.cells zR 80)=U:=⟨_,rfl⟩
 unfold zR at hW0
 rw [hW0] at HP0 c1 ⊢
 clear hW0
 refine wp_region_held_drew (S:=(fun w'=>w'.cell? ⟨g,1,none⟩=some (.string ⟨p.toArray⟩)/\Hid (PX w g v p s sp d dp w'))) (by kernel_rfl) (⟨c1,HP0.out.next ((Below.refl _ _).drew)⟩) (fun hH=>?_)
 refine zqt 1 (some 24) ?v1 rfl rfl ?c1 hH ?r1
 case c1=>(intro w' _;go_simp;(try with_reducible rfl))
 try simp only [Act.put,zq1,zq2,zq3]
 refine zqt 2 (some 25) ?v2 rfl rfl ?c2 hH ?r2
 case c2=>(intro w' _;go_simp;(try with_reducible rfl))
 try simp only [Act.put,zq1,zq2,zq3]
 refine zqt 3 (some 26) ?v3 rfl rfl ?c3 hH ?r3
 case c3=>(intro w' hS;(try dsimp only at hS);go_simp;(try with_reducible rfl))
 try simp only [Act.put,zq1,zq2,zq3]
 refine wpAnyH_ready (rs:=[0]) (by kernel_rfl) (by simp) (AllReadyH.cons rfl (fun K hK=>?_) (AllReadyH.nil))
 go_simp
 go_at_call 160
 refine (protocols_any _).mono ?_
 rintro e w1 ⟨rfl,rfl⟩
 have HM:=Lib.hid (heap_alloc_new W0.drew (.map pm 4))
 have HPM:Hid (PX w g v p s sp d dp (W0.drew.alloc (.map pm 4))):=hH.2.out.next (below_box _ _)
 refine hK.out _ _ (⟨HPM.out.wds.c1,HPM⟩) (fun hH=>?_)
 clear hK K
 try simp only [Act.put,zq1,zq2,zq3]
 refine wpAnyH_ready (rs:=[4]) (by kernel_rfl) (by simp) (AllReadyH.cons rfl (fun K hK=>?_) (AllReadyH.nil))
 have hlk:=HLK.out ((W0.alloc (.map pm 4)).drew) W0.heap.size (heap_alloc_new W0 _)
 go_simp
 refine hK.out _ _ (hH) (fun hH=>?_)
 clear hK K
 clear hlk
 try simp only [Act.put,zq1,zq2,zq3]
 refine zqt 5 (some 22) ?v4 rfl rfl ?c4 hH ?r4
 case c4=>(intro w' _;go_simp;(try with_reducible rfl))
 try simp only [Act.put,zq1,zq2,zq3]
 refine zqt 6 (some 28) ?v5 rfl rfl ?c5 hH ?r5
 case c5=>(intro w' _;go_simp;(try with_reducible rfl))
 try simp only [Act.put,zq1,zq2,zq3]
 refine zqt 7 (some 29) ?v6 rfl rfl ?c6 hH ?r6
 case c6=>(intro w' _;go_simp;(try with_reducible rfl))
 try simp only [Act.put,zq1,zq2,zq3]
 refine zqt 8 (some 5) ?v7 rfl rfl ?c7 hH ?r7
 case c7=>(intro w' _;go_simp;(try with_reducible rfl))
 try simp only [Act.put,zq1,zq2,zq3]
 refine zqt 9 (some 6) ?v8 rfl rfl ?c8 hH ?r8
 case c8=>(intro w' _;go_simp;(try with_reducible rfl))
 try simp only [Act.put,zq1,zq2,zq3]
 refine wpAnyH_done (by kernel_rfl) ?_ _
 have HQ0:=Lib.hid hH.2.out
 clear hH HM HPM HP0
 try clear hlk
 have c2:=HQ0.out.wds.c2
 go_wp2_with fail
 go_at_call 161
 refine (H0.out _ HQ0.out.ten.bel).mono ?_
 rintro e w2 ⟨rfl,hb⟩
 have HQ1:=Lib.hid ((HQ0.out.next hb).next (below_box w2 (.cells #[.int .u32 (x0:Int),.int .i64 (y0:Int)] 75)))
 clear hb c2
 have c3:=HQ1.out.wds.c3
 go_wp2_with fail
 go_at_call 162
 refine (H1.out _ HQ1.out.ten.bel).mono ?_
 rintro e w3 ⟨rfl,hb⟩
 have HQ2:=Lib.hid ((HQ1.out.next hb).next (below_box w3 (.cells #[.int .u16 x1,.int .u16 y1] 78)))
 clear hb c3
 have c4:=HQ2.out.wds.c4
 go_wp2_with fail
 go_at_call 161
 refine (H2.out _ HQ2.out.ten.bel).mono ?_
 rintro e w4 ⟨rfl,hb⟩
 have HQ3:=Lib.hid ((HQ2.out.next hb).next (below_box w4 (.cells #[.int .u32 0,.int .i64 0] 75)))
 clear hb c4
 have c5:=HQ3.out.wds.c5
 go_wp2_with fail
 go_at_call 162
 refine (H3.out _ HQ3.out.ten.bel).mono ?_
 rintro e w5 ⟨rfl,hb⟩
 have HQ4:=Lib.hid ((HQ3.out.next hb).next (below_box w5 (.cells #[.int .u16 x3,.int .u16 y3] 78)))
 clear hb c5
 have d0:=HQ4.out.ten.blk.cell 0 _ rfl
 have f0:=HQ4.out.ten.blk.frozen 0
 have d1:=HQ4.out.ten.blk.cell 1 _ rfl
 have f1:=HQ4.out.ten.blk.frozen 1
 have d2:=HQ4.out.ten.blk.cell 2 _ rfl
 have f2:=HQ4.out.ten.blk.frozen 2
 have d3:=HQ4.out.ten.blk.cell 3 _ rfl
 have f3:=HQ4.out.ten.blk.frozen 3
 have d4:=HQ4.out.ten.blk.cell 4 _ rfl
 have f4:=HQ4.out.ten.blk.frozen 4
 have d5:=HQ4.out.ten.blk.cell 5 _ rfl
 have f5:=HQ4.out.ten.blk.frozen 5
 have d6:=HQ4.out.ten.blk.cell 6 _ rfl
 have f6:=HQ4.out.ten.blk.frozen 6
 have d7:=HQ4.out.ten.blk.cell 7 _ rfl
 have f7:=HQ4.out.ten.blk.frozen 7
 have d8:=HQ4.out.ten.blk.cell 8 _ rfl
 have f8:=HQ4.out.ten.blk.frozen 8
 have d9:=HQ4.out.ten.blk.cell 9 _ rfl
 have f9:=HQ4.out.ten.blk.frozen 9
 go_wp2_with fail
 have HY:=Lib.hid (HQ4.out.ten.put (.bool false) (.int .u8 0) (.int .u32 0) (.int .i64 0) (.int .u32 0) (.int .i64 0) (.int .u16 0) (.int .u16 0) (.int .u16 0) (.int .u16 0))
 have r0:=HY.out.blk.cell 0 _ rfl
 have r1:=HY.out.blk.cell 1 _ rfl
 have r2:=HY.out.blk.cell 2 _ rfl
 have r3:=HY.out.blk.cell 3 _ rfl
 have r4:=HY.out.blk.cell 4 _ rfl
 have r5:=HY.out.blk.cell 5 _ rfl
 have r6:=HY.out.blk.cell 6 _ rfl
 have r7:=HY.out.blk.cell 7 _ rfl
 have r8:=HY.out.blk.cell 8 _ rfl
 have r9:=HY.out.blk.cell 9 _ rfl
 clear d0 d1 d2 d3 d4 d5 d6 d7 d8 d9 f0 f1 f2 f3 f4 f5 f6 f7 f8 f9
 exact bodyPost_ret (v:=ruleV none) (by simp [results,Tryz.results113,go_sem,ruleV,r0,r1,r2,r3,r4,r5,r6,r7,r8,r9]) rfl ⟨rfl,HY.out.bel⟩
set_option maxRecDepth 100000 in
set_option maxHeartbeats 2000000 in
theorem parse_as1 (v p s sp d dp:List UInt8) (g cap:Nat) (w:World) (he:Env w) (hW:Wds g v p s sp d dp w) (hcap:6<=cap) (hcap2:cap<=9223372036854775807) (l2:s.length<=4096) (l3:sp.length<=4096) (l4:d.length<=4096) (l5:dp.length<=4096) (hA:(v == [97,99,99,101,112,116])=true) (hK:protoB p=true) (x0 y0:Nat) (h0:netS s=some (x0,y0)) (h1:spanP sp=none) (x2 y2:Nat) (h2:netS d=some (x2,y2)) :
  Calls Tryz.prog 113 #[.slice (some ⟨g,0,none⟩) 6 cap] w fun e w'=>e = .returned (ruleV none)/\Below w.heap.size w w':=by
 have H0:=Lib.hid (fun W (h:Below w.heap.size w W)=>net_list s l2 W (he.ad.below h))
 rw [h0,netV_some] at H0
 have H1:=Lib.hid (fun W (h:Below w.heap.size w W)=>parseSpan_any sp l3 W (he.ad.below h))
 rw [h1,spanV_none] at H1
 have H2:=Lib.hid (fun W (h:Below w.heap.size w W)=>net_list d l4 W (he.ad.below h))
 rw [h2,netV_some] at H2
 have H3:=Lib.hid (fun W (h:Below w.heap.size w W)=>parseSpan_any dp l5 W (he.ad.below h))
 obtain ⟨x3,y3,z3,e3⟩:=spanV_form (spanP dp)
 rw [e3] at H3
 clear e3
 have HLK:=Lib.hid (fun W b hb=>look_list p W b hb)
 rw [hK] at HLK
 generalize protoN p=pn at *
 have HP0:Hid (PX w g v p s sp d dp (w.alloc (.cells zR 80))):=⟨TenAt.box w zR,hW.next (below_box _ _)⟩
 have hgl:=hW.lt
 clear he l2 l3 l4 l5 h0 h1 h2 hK hW
 have c0:=HP0.out.wds.c0
 have c1:=HP0.out.wds.c1
 go_enter Tryz.func113,Tryz.ntmps113
 go_wp2_with fail
 clear c0
 obtain ⟨W0,hW0⟩:∃ U,w.alloc (.cells zR 80)=U:=⟨_,rfl⟩
 unfold zR at hW0
 rw [hW0] at HP0 c1 ⊢
 clear hW0
 refine wp_region_held_drew (S:=(fun w'=>w'.cell? ⟨g,1,none⟩=some (.string ⟨p.toArray⟩)/\Hid (PX w g v p s sp d dp w'))) (by kernel_rfl) (⟨c1,HP0.out.next ((Below.refl _ _).drew)⟩) (fun hH=>?_)
 refine zqt 1 (some 24) ?v1 rfl rfl ?c1 hH ?r1
 case c1=>(intro w' _;go_simp;(try with_reducible rfl))
 try simp only [Act.put,zq1,zq2,zq3]
 refine zqt 2 (some 25) ?v2 rfl rfl ?c2 hH ?r2
 case c2=>(intro w' _;go_simp;(try with_reducible rfl))
 try simp only [Act.put,zq1,zq2,zq3]
 refine zqt 3 (some 26) ?v3 rfl rfl ?c3 hH ?r3
 case c3=>(intro w' hS;(try dsimp only at hS);go_simp;(try with_reducible rfl))
 try simp only [Act.put,zq1,zq2,zq3]
 refine wpAnyH_ready (rs:=[0]) (by kernel_rfl) (by simp) (AllReadyH.cons rfl (fun K hK=>?_) (AllReadyH.nil))
 go_simp
 go_at_call 160
 refine (protocols_any _).mono ?_
 rintro e w1 ⟨rfl,rfl⟩
 have HM:=Lib.hid (heap_alloc_new W0.drew (.map pm 4))
 have HPM:Hid (PX w g v p s sp d dp (W0.drew.alloc (.map pm 4))):=hH.2.out.next (below_box _ _)
 refine hK.out _ _ (⟨HPM.out.wds.c1,HPM⟩) (fun hH=>?_)
 clear hK K
 try simp only [Act.put,zq1,zq2,zq3]
 refine wpAnyH_ready (rs:=[4]) (by kernel_rfl) (by simp) (AllReadyH.cons rfl (fun K hK=>?_) (AllReadyH.nil))
 have hlk:=HLK.out ((W0.alloc (.map pm 4)).drew) W0.heap.size (heap_alloc_new W0 _)
 go_simp
 refine hK.out _ _ (hH) (fun hH=>?_)
 clear hK K
 clear hlk
 try simp only [Act.put,zq1,zq2,zq3]
 refine zqt 5 (some 22) ?v4 rfl rfl ?c4 hH ?r4
 case c4=>(intro w' _;go_simp;(try with_reducible rfl))
 try simp only [Act.put,zq1,zq2,zq3]
 refine zqt 6 (some 28) ?v5 rfl rfl ?c5 hH ?r5
 case c5=>(intro w' _;go_simp;(try with_reducible rfl))
 try simp only [Act.put,zq1,zq2,zq3]
 refine zqt 7 (some 29) ?v6 rfl rfl ?c6 hH ?r6
 case c6=>(intro w' _;go_simp;(try with_reducible rfl))
 try simp only [Act.put,zq1,zq2,zq3]
 refine zqt 8 (some 5) ?v7 rfl rfl ?c7 hH ?r7
 case c7=>(intro w' _;go_simp;(try with_reducible rfl))
 try simp only [Act.put,zq1,zq2,zq3]
 refine zqt 9 (some 6) ?v8 rfl rfl ?c8 hH ?r8
 case c8=>(intro w' _;go_simp;(try with_reducible rfl))
 try simp only [Act.put,zq1,zq2,zq3]
 refine wpAnyH_done (by kernel_rfl) ?_ _
 have HQ0:=Lib.hid hH.2.out
 clear hH HM HPM HP0
 try clear hlk
 have c2:=HQ0.out.wds.c2
 go_wp2_with fail
 go_at_call 161
 refine (H0.out _ HQ0.out.ten.bel).mono ?_
 rintro e w2 ⟨rfl,hb⟩
 have HQ1:=Lib.hid ((HQ0.out.next hb).next (below_box w2 (.cells #[.int .u32 (x0:Int),.int .i64 (y0:Int)] 75)))
 clear hb c2
 have c3:=HQ1.out.wds.c3
 go_wp2_with fail
 go_at_call 162
 refine (H1.out _ HQ1.out.ten.bel).mono ?_
 rintro e w3 ⟨rfl,hb⟩
 have HQ2:=Lib.hid ((HQ1.out.next hb).next (below_box w3 (.cells #[.int .u16 0,.int .u16 0] 78)))
 clear hb c3
 have c4:=HQ2.out.wds.c4
 go_wp2_with fail
 go_at_call 161
 refine (H2.out _ HQ2.out.ten.bel).mono ?_
 rintro e w4 ⟨rfl,hb⟩
 have HQ3:=Lib.hid ((HQ2.out.next hb).next (below_box w4 (.cells #[.int .u32 (x2:Int),.int .i64 (y2:Int)] 75)))
 clear hb c4
 have c5:=HQ3.out.wds.c5
 go_wp2_with fail
 go_at_call 162
 refine (H3.out _ HQ3.out.ten.bel).mono ?_
 rintro e w5 ⟨rfl,hb⟩
 have HQ4:=Lib.hid ((HQ3.out.next hb).next (below_box w5 (.cells #[.int .u16 x3,.int .u16 y3] 78)))
 clear hb c5
 have d0:=HQ4.out.ten.blk.cell 0 _ rfl
 have f0:=HQ4.out.ten.blk.frozen 0
 have d1:=HQ4.out.ten.blk.cell 1 _ rfl
 have f1:=HQ4.out.ten.blk.frozen 1
 have d2:=HQ4.out.ten.blk.cell 2 _ rfl
 have f2:=HQ4.out.ten.blk.frozen 2
 have d3:=HQ4.out.ten.blk.cell 3 _ rfl
 have f3:=HQ4.out.ten.blk.frozen 3
 have d4:=HQ4.out.ten.blk.cell 4 _ rfl
 have f4:=HQ4.out.ten.blk.frozen 4
 have d5:=HQ4.out.ten.blk.cell 5 _ rfl
 have f5:=HQ4.out.ten.blk.frozen 5
 have d6:=HQ4.out.ten.blk.cell 6 _ rfl
 have f6:=HQ4.out.ten.blk.frozen 6
 have d7:=HQ4.out.ten.blk.cell 7 _ rfl
 have f7:=HQ4.out.ten.blk.frozen 7
 have d8:=HQ4.out.ten.blk.cell 8 _ rfl
 have f8:=HQ4.out.ten.blk.frozen 8
 have d9:=HQ4.out.ten.blk.cell 9 _ rfl
 have f9:=HQ4.out.ten.blk.frozen 9
 go_wp2_with fail
 have HY:=Lib.hid (HQ4.out.ten.put (.bool false) (.int .u8 0) (.int .u32 0) (.int .i64 0) (.int .u32 0) (.int .i64 0) (.int .u16 0) (.int .u16 0) (.int .u16 0) (.int .u16 0))
 have r0:=HY.out.blk.cell 0 _ rfl
 have r1:=HY.out.blk.cell 1 _ rfl
 have r2:=HY.out.blk.cell 2 _ rfl
 have r3:=HY.out.blk.cell 3 _ rfl
 have r4:=HY.out.blk.cell 4 _ rfl
 have r5:=HY.out.blk.cell 5 _ rfl
 have r6:=HY.out.blk.cell 6 _ rfl
 have r7:=HY.out.blk.cell 7 _ rfl
 have r8:=HY.out.blk.cell 8 _ rfl
 have r9:=HY.out.blk.cell 9 _ rfl
 clear d0 d1 d2 d3 d4 d5 d6 d7 d8 d9 f0 f1 f2 f3 f4 f5 f6 f7 f8 f9
 exact bodyPost_ret (v:=ruleV none) (by simp [results,Tryz.results113,go_sem,ruleV,r0,r1,r2,r3,r4,r5,r6,r7,r8,r9]) rfl ⟨rfl,HY.out.bel⟩
set_option maxRecDepth 100000 in
set_option maxHeartbeats 2000000 in
theorem parse_as2 (v p s sp d dp:List UInt8) (g cap:Nat) (w:World) (he:Env w) (hW:Wds g v p s sp d dp w) (hcap:6<=cap) (hcap2:cap<=9223372036854775807) (l2:s.length<=4096) (l3:sp.length<=4096) (l4:d.length<=4096) (l5:dp.length<=4096) (hA:(v == [97,99,99,101,112,116])=true) (hK:protoB p=true) (x0 y0:Nat) (h0:netS s=some (x0,y0)) (x1 y1:Nat) (h1:spanP sp=some (x1,y1)) (x2 y2:Nat) (h2:netS d=some (x2,y2)) (h3:spanP dp=none) :
  Calls Tryz.prog 113 #[.slice (some ⟨g,0,none⟩) 6 cap] w fun e w'=>e = .returned (ruleV none)/\Below w.heap.size w w':=by
 have H0:=Lib.hid (fun W (h:Below w.heap.size w W)=>net_list s l2 W (he.ad.below h))
 rw [h0,netV_some] at H0
 have H1:=Lib.hid (fun W (h:Below w.heap.size w W)=>parseSpan_any sp l3 W (he.ad.below h))
 rw [h1,spanV_some] at H1
 have H2:=Lib.hid (fun W (h:Below w.heap.size w W)=>net_list d l4 W (he.ad.below h))
 rw [h2,netV_some] at H2
 have H3:=Lib.hid (fun W (h:Below w.heap.size w W)=>parseSpan_any dp l5 W (he.ad.below h))
 rw [h3,spanV_none] at H3
 have HLK:=Lib.hid (fun W b hb=>look_list p W b hb)
 rw [hK] at HLK
 generalize protoN p=pn at *
 have HP0:Hid (PX w g v p s sp d dp (w.alloc (.cells zR 80))):=⟨TenAt.box w zR,hW.next (below_box _ _)⟩
 have hgl:=hW.lt
 clear he l2 l3 l4 l5 h0 h1 h2 h3 hK hW
 have c0:=HP0.out.wds.c0
 have c1:=HP0.out.wds.c1
 go_enter Tryz.func113,Tryz.ntmps113
 go_wp2_with fail
 clear c0
 obtain ⟨W0,hW0⟩:∃ U,w.alloc (.cells zR 80)=U:=⟨_,rfl⟩
 unfold zR at hW0
 rw [hW0] at HP0 c1 ⊢
 clear hW0
 refine wp_region_held_drew (S:=(fun w'=>w'.cell? ⟨g,1,none⟩=some (.string ⟨p.toArray⟩)/\Hid (PX w g v p s sp d dp w'))) (by kernel_rfl) (⟨c1,HP0.out.next ((Below.refl _ _).drew)⟩) (fun hH=>?_)
 refine zqt 1 (some 24) ?v1 rfl rfl ?c1 hH ?r1
 case c1=>(intro w' _;go_simp;(try with_reducible rfl))
 try simp only [Act.put,zq1,zq2,zq3]
 refine zqt 2 (some 25) ?v2 rfl rfl ?c2 hH ?r2
 case c2=>(intro w' _;go_simp;(try with_reducible rfl))
 try simp only [Act.put,zq1,zq2,zq3]
 refine zqt 3 (some 26) ?v3 rfl rfl ?c3 hH ?r3
 case c3=>(intro w' hS;(try dsimp only at hS);go_simp;(try with_reducible rfl))
 try simp only [Act.put,zq1,zq2,zq3]
 refine wpAnyH_ready (rs:=[0]) (by kernel_rfl) (by simp) (AllReadyH.cons rfl (fun K hK=>?_) (AllReadyH.nil))
 go_simp
 go_at_call 160
 refine (protocols_any _).mono ?_
 rintro e w1 ⟨rfl,rfl⟩
 have HM:=Lib.hid (heap_alloc_new W0.drew (.map pm 4))
 have HPM:Hid (PX w g v p s sp d dp (W0.drew.alloc (.map pm 4))):=hH.2.out.next (below_box _ _)
 refine hK.out _ _ (⟨HPM.out.wds.c1,HPM⟩) (fun hH=>?_)
 clear hK K
 try simp only [Act.put,zq1,zq2,zq3]
 refine wpAnyH_ready (rs:=[4]) (by kernel_rfl) (by simp) (AllReadyH.cons rfl (fun K hK=>?_) (AllReadyH.nil))
 have hlk:=HLK.out ((W0.alloc (.map pm 4)).drew) W0.heap.size (heap_alloc_new W0 _)
 go_simp
 refine hK.out _ _ (hH) (fun hH=>?_)
 clear hK K
 clear hlk
 try simp only [Act.put,zq1,zq2,zq3]
 refine zqt 5 (some 22) ?v4 rfl rfl ?c4 hH ?r4
 case c4=>(intro w' _;go_simp;(try with_reducible rfl))
 try simp only [Act.put,zq1,zq2,zq3]
 refine zqt 6 (some 28) ?v5 rfl rfl ?c5 hH ?r5
 case c5=>(intro w' _;go_simp;(try with_reducible rfl))
 try simp only [Act.put,zq1,zq2,zq3]
 refine zqt 7 (some 29) ?v6 rfl rfl ?c6 hH ?r6
 case c6=>(intro w' _;go_simp;(try with_reducible rfl))
 try simp only [Act.put,zq1,zq2,zq3]
 refine zqt 8 (some 5) ?v7 rfl rfl ?c7 hH ?r7
 case c7=>(intro w' _;go_simp;(try with_reducible rfl))
 try simp only [Act.put,zq1,zq2,zq3]
 refine zqt 9 (some 6) ?v8 rfl rfl ?c8 hH ?r8
 case c8=>(intro w' _;go_simp;(try with_reducible rfl))
 try simp only [Act.put,zq1,zq2,zq3]
 refine wpAnyH_done (by kernel_rfl) ?_ _
 have HQ0:=Lib.hid hH.2.out
 clear hH HM HPM HP0
 try clear hlk
 have c2:=HQ0.out.wds.c2
 go_wp2_with fail
 go_at_call 161
 refine (H0.out _ HQ0.out.ten.bel).mono ?_
 rintro e w2 ⟨rfl,hb⟩
 have HQ1:=Lib.hid ((HQ0.out.next hb).next (below_box w2 (.cells #[.int .u32 (x0:Int),.int .i64 (y0:Int)] 75)))
 clear hb c2
 have c3:=HQ1.out.wds.c3
 go_wp2_with fail
 go_at_call 162
 refine (H1.out _ HQ1.out.ten.bel).mono ?_
 rintro e w3 ⟨rfl,hb⟩
 have HQ2:=Lib.hid ((HQ1.out.next hb).next (below_box w3 (.cells #[.int .u16 (x1:Int),.int .u16 (y1:Int)] 78)))
 clear hb c3
 have c4:=HQ2.out.wds.c4
 go_wp2_with fail
 go_at_call 161
 refine (H2.out _ HQ2.out.ten.bel).mono ?_
 rintro e w4 ⟨rfl,hb⟩
 have HQ3:=Lib.hid ((HQ2.out.next hb).next (below_box w4 (.cells #[.int .u32 (x2:Int),.int .i64 (y2:Int)] 75)))
 clear hb c4
 have c5:=HQ3.out.wds.c5
 go_wp2_with fail
 go_at_call 162
 refine (H3.out _ HQ3.out.ten.bel).mono ?_
 rintro e w5 ⟨rfl,hb⟩
 have HQ4:=Lib.hid ((HQ3.out.next hb).next (below_box w5 (.cells #[.int .u16 0,.int .u16 0] 78)))
 clear hb c5
 have d0:=HQ4.out.ten.blk.cell 0 _ rfl
 have f0:=HQ4.out.ten.blk.frozen 0
 have d1:=HQ4.out.ten.blk.cell 1 _ rfl
 have f1:=HQ4.out.ten.blk.frozen 1
 have d2:=HQ4.out.ten.blk.cell 2 _ rfl
 have f2:=HQ4.out.ten.blk.frozen 2
 have d3:=HQ4.out.ten.blk.cell 3 _ rfl
 have f3:=HQ4.out.ten.blk.frozen 3
 have d4:=HQ4.out.ten.blk.cell 4 _ rfl
 have f4:=HQ4.out.ten.blk.frozen 4
 have d5:=HQ4.out.ten.blk.cell 5 _ rfl
 have f5:=HQ4.out.ten.blk.frozen 5
 have d6:=HQ4.out.ten.blk.cell 6 _ rfl
 have f6:=HQ4.out.ten.blk.frozen 6
 have d7:=HQ4.out.ten.blk.cell 7 _ rfl
 have f7:=HQ4.out.ten.blk.frozen 7
 have d8:=HQ4.out.ten.blk.cell 8 _ rfl
 have f8:=HQ4.out.ten.blk.frozen 8
 have d9:=HQ4.out.ten.blk.cell 9 _ rfl
 have f9:=HQ4.out.ten.blk.frozen 9
 go_wp2_with fail
 have HY:=Lib.hid (HQ4.out.ten.put (.bool false) (.int .u8 0) (.int .u32 0) (.int .i64 0) (.int .u32 0) (.int .i64 0) (.int .u16 0) (.int .u16 0) (.int .u16 0) (.int .u16 0))
 have r0:=HY.out.blk.cell 0 _ rfl
 have r1:=HY.out.blk.cell 1 _ rfl
 have r2:=HY.out.blk.cell 2 _ rfl
 have r3:=HY.out.blk.cell 3 _ rfl
 have r4:=HY.out.blk.cell 4 _ rfl
 have r5:=HY.out.blk.cell 5 _ rfl
 have r6:=HY.out.blk.cell 6 _ rfl
 have r7:=HY.out.blk.cell 7 _ rfl
 have r8:=HY.out.blk.cell 8 _ rfl
 have r9:=HY.out.blk.cell 9 _ rfl
 clear d0 d1 d2 d3 d4 d5 d6 d7 d8 d9 f0 f1 f2 f3 f4 f5 f6 f7 f8 f9
 exact bodyPost_ret (v:=ruleV none) (by simp [results,Tryz.results113,go_sem,ruleV,r0,r1,r2,r3,r4,r5,r6,r7,r8,r9]) rfl ⟨rfl,HY.out.bel⟩
set_option maxRecDepth 100000 in
set_option maxHeartbeats 2000000 in
theorem parse_ay (v p s sp d dp:List UInt8) (g cap:Nat) (w:World) (he:Env w) (hW:Wds g v p s sp d dp w) (hcap:6<=cap) (hcap2:cap<=9223372036854775807) (l2:s.length<=4096) (l3:sp.length<=4096) (l4:d.length<=4096) (l5:dp.length<=4096) (hA:(v == [97,99,99,101,112,116])=true) (hK:protoB p=true) (x0 y0:Nat) (h0:netS s=some (x0,y0)) (x1 y1:Nat) (h1:spanP sp=some (x1,y1)) (x2 y2:Nat) (h2:netS d=some (x2,y2)) (x3 y3:Nat) (h3:spanP dp=some (x3,y3)) :
  Calls Tryz.prog 113 #[.slice (some ⟨g,0,none⟩) 6 cap] w fun e w'=>e = .returned (ruleV (some ⟨true,protoN p,x0,(y0:Int),x2,(y2:Int),x1,y1,x3,y3⟩))/\Below w.heap.size w w':=by
 have H0:=Lib.hid (fun W (h:Below w.heap.size w W)=>net_list s l2 W (he.ad.below h))
 rw [h0,netV_some] at H0
 have H1:=Lib.hid (fun W (h:Below w.heap.size w W)=>parseSpan_any sp l3 W (he.ad.below h))
 rw [h1,spanV_some] at H1
 have H2:=Lib.hid (fun W (h:Below w.heap.size w W)=>net_list d l4 W (he.ad.below h))
 rw [h2,netV_some] at H2
 have H3:=Lib.hid (fun W (h:Below w.heap.size w W)=>parseSpan_any dp l5 W (he.ad.below h))
 rw [h3,spanV_some] at H3
 have HLK:=Lib.hid (fun W b hb=>look_list p W b hb)
 rw [hK] at HLK
 generalize protoN p=pn at *
 have HP0:Hid (PX w g v p s sp d dp (w.alloc (.cells zR 80))):=⟨TenAt.box w zR,hW.next (below_box _ _)⟩
 have hgl:=hW.lt
 clear he l2 l3 l4 l5 h0 h1 h2 h3 hK hW
 have c0:=HP0.out.wds.c0
 have c1:=HP0.out.wds.c1
 go_enter Tryz.func113,Tryz.ntmps113
 go_wp2_with fail
 clear c0
 obtain ⟨W0,hW0⟩:∃ U,w.alloc (.cells zR 80)=U:=⟨_,rfl⟩
 unfold zR at hW0
 rw [hW0] at HP0 c1 ⊢
 clear hW0
 refine wp_region_held_drew (S:=(fun w'=>w'.cell? ⟨g,1,none⟩=some (.string ⟨p.toArray⟩)/\Hid (PX w g v p s sp d dp w'))) (by kernel_rfl) (⟨c1,HP0.out.next ((Below.refl _ _).drew)⟩) (fun hH=>?_)
 refine zqt 1 (some 24) ?v1 rfl rfl ?c1 hH ?r1
 case c1=>(intro w' _;go_simp;(try with_reducible rfl))
 try simp only [Act.put,zq1,zq2,zq3]
 refine zqt 2 (some 25) ?v2 rfl rfl ?c2 hH ?r2
 case c2=>(intro w' _;go_simp;(try with_reducible rfl))
 try simp only [Act.put,zq1,zq2,zq3]
 refine zqt 3 (some 26) ?v3 rfl rfl ?c3 hH ?r3
 case c3=>(intro w' hS;(try dsimp only at hS);go_simp;(try with_reducible rfl))
 try simp only [Act.put,zq1,zq2,zq3]
 refine wpAnyH_ready (rs:=[0]) (by kernel_rfl) (by simp) (AllReadyH.cons rfl (fun K hK=>?_) (AllReadyH.nil))
 go_simp
 go_at_call 160
 refine (protocols_any _).mono ?_
 rintro e w1 ⟨rfl,rfl⟩
 have HM:=Lib.hid (heap_alloc_new W0.drew (.map pm 4))
 have HPM:Hid (PX w g v p s sp d dp (W0.drew.alloc (.map pm 4))):=hH.2.out.next (below_box _ _)
 refine hK.out _ _ (⟨HPM.out.wds.c1,HPM⟩) (fun hH=>?_)
 clear hK K
 try simp only [Act.put,zq1,zq2,zq3]
 refine wpAnyH_ready (rs:=[4]) (by kernel_rfl) (by simp) (AllReadyH.cons rfl (fun K hK=>?_) (AllReadyH.nil))
 have hlk:=HLK.out ((W0.alloc (.map pm 4)).drew) W0.heap.size (heap_alloc_new W0 _)
 go_simp
 refine hK.out _ _ (hH) (fun hH=>?_)
 clear hK K
 clear hlk
 try simp only [Act.put,zq1,zq2,zq3]
 refine zqt 5 (some 22) ?v4 rfl rfl ?c4 hH ?r4
 case c4=>(intro w' _;go_simp;(try with_reducible rfl))
 try simp only [Act.put,zq1,zq2,zq3]
 refine zqt 6 (some 28) ?v5 rfl rfl ?c5 hH ?r5
 case c5=>(intro w' _;go_simp;(try with_reducible rfl))
 try simp only [Act.put,zq1,zq2,zq3]
 refine zqt 7 (some 29) ?v6 rfl rfl ?c6 hH ?r6
 case c6=>(intro w' _;go_simp;(try with_reducible rfl))
 try simp only [Act.put,zq1,zq2,zq3]
 refine zqt 8 (some 5) ?v7 rfl rfl ?c7 hH ?r7
 case c7=>(intro w' _;go_simp;(try with_reducible rfl))
 try simp only [Act.put,zq1,zq2,zq3]
 refine zqt 9 (some 6) ?v8 rfl rfl ?c8 hH ?r8
 case c8=>(intro w' _;go_simp;(try with_reducible rfl))
 try simp only [Act.put,zq1,zq2,zq3]
 refine wpAnyH_done (by kernel_rfl) ?_ _
 have HQ0:=Lib.hid hH.2.out
 clear hH HM HPM HP0
 try clear hlk
 have c2:=HQ0.out.wds.c2
 go_wp2_with fail
 go_at_call 161
 refine (H0.out _ HQ0.out.ten.bel).mono ?_
 rintro e w2 ⟨rfl,hb⟩
 have HQ1:=Lib.hid ((HQ0.out.next hb).next (below_box w2 (.cells #[.int .u32 (x0:Int),.int .i64 (y0:Int)] 75)))
 have HC0:=Lib.hid (Blk.box w2 #[.int .u32 (x0:Int),.int .i64 (y0:Int)] 75)
 clear hb c2
 have c3:=HQ1.out.wds.c3
 go_wp2_with fail
 go_at_call 162
 refine (H1.out _ HQ1.out.ten.bel).mono ?_
 rintro e w3 ⟨rfl,hb⟩
 have HQ2:=Lib.hid ((HQ1.out.next hb).next (below_box w3 (.cells #[.int .u16 (x1:Int),.int .u16 (y1:Int)] 78)))
 have HC0:=Lib.hid ((HC0.out.next hb).next (below_box w3 (.cells #[.int .u16 (x1:Int),.int .u16 (y1:Int)] 78)))
 have HC1:=Lib.hid (Blk.box w3 #[.int .u16 (x1:Int),.int .u16 (y1:Int)] 78)
 clear hb c3
 have c4:=HQ2.out.wds.c4
 go_wp2_with fail
 go_at_call 161
 refine (H2.out _ HQ2.out.ten.bel).mono ?_
 rintro e w4 ⟨rfl,hb⟩
 have HQ3:=Lib.hid ((HQ2.out.next hb).next (below_box w4 (.cells #[.int .u32 (x2:Int),.int .i64 (y2:Int)] 75)))
 have HC0:=Lib.hid ((HC0.out.next hb).next (below_box w4 (.cells #[.int .u32 (x2:Int),.int .i64 (y2:Int)] 75)))
 have HC1:=Lib.hid ((HC1.out.next hb).next (below_box w4 (.cells #[.int .u32 (x2:Int),.int .i64 (y2:Int)] 75)))
 have HC2:=Lib.hid (Blk.box w4 #[.int .u32 (x2:Int),.int .i64 (y2:Int)] 75)
 clear hb c4
 have c5:=HQ3.out.wds.c5
 go_wp2_with fail
 go_at_call 162
 refine (H3.out _ HQ3.out.ten.bel).mono ?_
 rintro e w5 ⟨rfl,hb⟩
 have HQ4:=Lib.hid ((HQ3.out.next hb).next (below_box w5 (.cells #[.int .u16 (x3:Int),.int .u16 (y3:Int)] 78)))
 have HC0:=Lib.hid ((HC0.out.next hb).next (below_box w5 (.cells #[.int .u16 (x3:Int),.int .u16 (y3:Int)] 78)))
 have HC1:=Lib.hid ((HC1.out.next hb).next (below_box w5 (.cells #[.int .u16 (x3:Int),.int .u16 (y3:Int)] 78)))
 have HC2:=Lib.hid ((HC2.out.next hb).next (below_box w5 (.cells #[.int .u16 (x3:Int),.int .u16 (y3:Int)] 78)))
 have HC3:=Lib.hid (Blk.box w5 #[.int .u16 (x3:Int),.int .u16 (y3:Int)] 78)
 clear hb c5
 have d0:=HQ4.out.ten.blk.cell 0 _ rfl
 have f0:=HQ4.out.ten.blk.frozen 0
 have d1:=HQ4.out.ten.blk.cell 1 _ rfl
 have f1:=HQ4.out.ten.blk.frozen 1
 have d2:=HQ4.out.ten.blk.cell 2 _ rfl
 have f2:=HQ4.out.ten.blk.frozen 2
 have d3:=HQ4.out.ten.blk.cell 3 _ rfl
 have f3:=HQ4.out.ten.blk.frozen 3
 have d4:=HQ4.out.ten.blk.cell 4 _ rfl
 have f4:=HQ4.out.ten.blk.frozen 4
 have d5:=HQ4.out.ten.blk.cell 5 _ rfl
 have f5:=HQ4.out.ten.blk.frozen 5
 have d6:=HQ4.out.ten.blk.cell 6 _ rfl
 have f6:=HQ4.out.ten.blk.frozen 6
 have d7:=HQ4.out.ten.blk.cell 7 _ rfl
 have f7:=HQ4.out.ten.blk.frozen 7
 have d8:=HQ4.out.ten.blk.cell 8 _ rfl
 have f8:=HQ4.out.ten.blk.frozen 8
 have d9:=HQ4.out.ten.blk.cell 9 _ rfl
 have f9:=HQ4.out.ten.blk.frozen 9
 have k00:=HC0.out.cell 0 _ rfl
 have k01:=HC0.out.cell 1 _ rfl
 have k10:=HC1.out.cell 0 _ rfl
 have k11:=HC1.out.cell 1 _ rfl
 have k20:=HC2.out.cell 0 _ rfl
 have k21:=HC2.out.cell 1 _ rfl
 have k30:=HC3.out.cell 0 _ rfl
 have k31:=HC3.out.cell 1 _ rfl
 go_wp2_with fail
 have HY:=Lib.hid (HQ4.out.ten.put (.bool true) (.int .u8 (pn:Int)) (.int .u32 (x0:Int)) (.int .i64 (y0:Int)) (.int .u32 (x2:Int)) (.int .i64 (y2:Int)) (.int .u16 (x1:Int)) (.int .u16 (y1:Int)) (.int .u16 (x3:Int)) (.int .u16 (y3:Int)))
 have r0:=HY.out.blk.cell 0 _ rfl
 have r1:=HY.out.blk.cell 1 _ rfl
 have r2:=HY.out.blk.cell 2 _ rfl
 have r3:=HY.out.blk.cell 3 _ rfl
 have r4:=HY.out.blk.cell 4 _ rfl
 have r5:=HY.out.blk.cell 5 _ rfl
 have r6:=HY.out.blk.cell 6 _ rfl
 have r7:=HY.out.blk.cell 7 _ rfl
 have r8:=HY.out.blk.cell 8 _ rfl
 have r9:=HY.out.blk.cell 9 _ rfl
 clear d0 d1 d2 d3 d4 d5 d6 d7 d8 d9 f0 f1 f2 f3 f4 f5 f6 f7 f8 f9
 exact bodyPost_ret (v:=ruleV (some ⟨true,pn,x0,(y0:Int),x2,(y2:Int),x1,y1,x3,y3⟩)) (by simp [results,Tryz.results113,go_sem,ruleV,r0,r1,r2,r3,r4,r5,r6,r7,r8,r9]) rfl ⟨rfl,HY.out.bel⟩
end Ru
end Go.Proofs.YtcockldefmmhbaaGreatDoor
set_option linter.unusedVariables false
set_option maxRecDepth 100000
set_option linter.unusedSimpArgs false
namespace Go.Proofs.YtcockldefmmhbaaGreatDoor
open Go.ChangeShapes Go.WideShapes Go.ChangeAt Go.RowKit Go.Mtl Go.Shelf Go.Lib
namespace Ru
open RulM (R wordS known protoP spanS spanP parseW acceptL dropL comp compile)
open AdrM (anyL netS)
open TxtM (Line errOf lineOf linesOf)
theorem parse_short (v:Value) (ws:List (List UInt8)) (w:World) (h6:ws.length≠6) (hr:Tx.Row w 9 w.heap.size v ws.length (ws.map Tx.strV)) :
  Calls Tryz.prog 113 #[v] w fun e w'=>e = .returned (ruleV none)/\Below w.heap.size w w':=by
 obtain ⟨A,c,rfl⟩:=hr.len
 have hd:((ws.length:Int) != 6)=true:=by rw [bne_iff_ne];omega
 have HT:=Lib.hid (TenAt.box w zR)
 clear hr h6
 generalize ws.length=n at *
 go_enter Tryz.func113,Tryz.ntmps113
 go_wp2_with fail
 exact bodyPost_ret (v:=ruleV none) (by simp [results,Tryz.results113,go_sem,ruleV]) rfl ⟨rfl,below_box _ _⟩
theorem protoB_none {l:List UInt8} (h:protoP l=none):protoB l=false:=by unfold protoB;rw [h];rfl
theorem protoB_some {l:List UInt8} {p:Nat} (h:protoP l=some p):protoB l=true/\protoN l=p:=by unfold protoB protoN;rw [h];exact ⟨rfl,rfl⟩
theorem parseW_six (v p s sp d dp:List UInt8):parseW [v,p,s,sp,d,dp]=if v=acceptL\/v=dropL then
  match protoP p,netS s,spanP sp,netS d,spanP dp with
  | some p,some (sa,sb),some (sl,sh),some (da,db),some (dl,dh)=>some ⟨decide (v=acceptL),p,sa,sb,da,db,sl,sh,dl,dh⟩
  | _,_,_,_,_=>none else none:=rfl
theorem parseW_verd {v p s sp d dp:List UInt8} (hA : ¬ v=acceptL) (hD : ¬ v=dropL):parseW [v,p,s,sp,d,dp]=none:=by rw [parseW_six,if_neg (fun h=>h.elim hA hD)]
theorem parseW_no {v p s sp d dp:List UInt8} (h:protoP p=none\/netS s=none\/spanP sp=none\/netS d=none\/spanP dp=none):parseW [v,p,s,sp,d,dp]=none:=by
 rw [parseW_six]
 split
 ·generalize protoP p=x0 at *
  generalize netS s=x1 at *
  generalize spanP sp=x2 at *
  generalize netS d=x3 at *
  generalize spanP dp=x4 at *
  cases x0 <;> cases x1 <;> cases x2 <;> cases x3 <;> cases x4 <;> simp at h ⊢
 ·rfl
theorem parseW_yes {v p s sp d dp:List UInt8} {q x0 y0 x1 y1 x2 y2 x3 y3:Nat} (hv:v=acceptL\/v=dropL) (h1:protoP p=some q) (h2:netS s=some (x0,y0)) (h3:spanP sp=some (x1,y1)) (h4:netS d=some (x2,y2)) (h5:spanP dp=some (x3,y3)) :
  parseW [v,p,s,sp,d,dp]=some ⟨decide (v=acceptL),q,x0,y0,x2,y2,x1,y1,x3,y3⟩:=by
 rw [parseW_six,if_pos hv,h1,h2,h3,h4,h5]
theorem parse_six (v p s sp d dp:List UInt8) (g cap:Nat) (w:World) (he:Env w) (hW:Wds g v p s sp d dp w) (hcap:6<=cap) (hcap2:cap<=9223372036854775807) (l2:s.length<=4096) (l3:sp.length<=4096) (l4:d.length<=4096) (l5:dp.length<=4096) :
  Calls Tryz.prog 113 #[.slice (some ⟨g,0,none⟩) 6 cap] w fun e w'=>e = .returned (ruleV (parseW [v,p,s,sp,d,dp]))/\Below w.heap.size w w':=by
 by_cases hv:v=acceptL\/v=dropL
 ·cases h:protoP p with
  | none =>
   rw [parseW_no (.inl h)]
   have hK:=protoB_none h
   rcases hv with rfl | rfl
   ·exact parse_ak _ p s sp d dp g cap w he hW hcap hcap2 l2 l3 l4 l5 rfl hK
   ·exact parse_dk _ p s sp d dp g cap w he hW hcap hcap2 l2 l3 l4 l5 rfl rfl hK
  | some q =>
   obtain ⟨hK,hN⟩:=protoB_some h
   cases h0:netS s with
   | none =>
    rw [parseW_no (.inr (.inl h0))]
    rcases hv with rfl | rfl
    ·exact parse_an1 _ p s sp d dp g cap w he hW hcap hcap2 l2 l3 l4 l5 rfl hK h0
    ·exact parse_dn1 _ p s sp d dp g cap w he hW hcap hcap2 l2 l3 l4 l5 rfl rfl hK h0
   | some X0 =>
    obtain ⟨x0,y0⟩:=X0
    cases h2:netS d with
    | none =>
     rw [parseW_no (.inr (.inr (.inr (.inl h2))))]
     rcases hv with rfl | rfl
     ·exact parse_an2 _ p s sp d dp g cap w he hW hcap hcap2 l2 l3 l4 l5 rfl hK x0 y0 h0 h2
     ·exact parse_dn2 _ p s sp d dp g cap w he hW hcap hcap2 l2 l3 l4 l5 rfl rfl hK x0 y0 h0 h2
    | some X2 =>
     obtain ⟨x2,y2⟩:=X2
     cases h1:spanP sp with
     | none =>
      rw [parseW_no (.inr (.inr (.inl h1)))]
      rcases hv with rfl | rfl
      ·exact parse_as1 _ p s sp d dp g cap w he hW hcap hcap2 l2 l3 l4 l5 rfl hK x0 y0 h0 h1 x2 y2 h2
      ·exact parse_ds1 _ p s sp d dp g cap w he hW hcap hcap2 l2 l3 l4 l5 rfl rfl hK x0 y0 h0 h1 x2 y2 h2
     | some X1 =>
      obtain ⟨x1,y1⟩:=X1
      cases h3:spanP dp with
      | none =>
       rw [parseW_no (.inr (.inr (.inr (.inr h3))))]
       rcases hv with rfl | rfl
       ·exact parse_as2 _ p s sp d dp g cap w he hW hcap hcap2 l2 l3 l4 l5 rfl hK x0 y0 h0 x1 y1 h1 x2 y2 h2 h3
       ·exact parse_ds2 _ p s sp d dp g cap w he hW hcap hcap2 l2 l3 l4 l5 rfl rfl hK x0 y0 h0 x1 y1 h1 x2 y2 h2 h3
      | some X3 =>
       obtain ⟨x3,y3⟩:=X3
       rw [parseW_yes hv h h0 h1 h2 h3,← hN]
       rcases hv with rfl | rfl
       ·exact parse_ay _ p s sp d dp g cap w he hW hcap hcap2 l2 l3 l4 l5 rfl hK x0 y0 h0 x1 y1 h1 x2 y2 h2 x3 y3 h3
       ·exact parse_dy _ p s sp d dp g cap w he hW hcap hcap2 l2 l3 l4 l5 rfl rfl hK x0 y0 h0 x1 y1 h1 x2 y2 h2 x3 y3 h3
 ·have hA : ¬ v=acceptL:=fun h=>hv (.inl h)
  have hD : ¬ v=dropL:=fun h=>hv (.inr h)
  rw [parseW_verd hA hD]
  exact parse_nov v p s sp d dp g cap w he hW hcap hcap2 l2 l3 l4 l5 (by rw [beq_eq_false_iff_ne];exact hA) (by rw [beq_eq_false_iff_ne];exact hD)
theorem parse_any (v:Value) (ws:List (List UInt8)) (w:World) (he:Env w) (hr:Tx.Row w 9 w.heap.size v ws.length (ws.map Tx.strV)) (hl:∀ x ∈ ws,x.length<=4096) :
  Calls Tryz.prog 113 #[v] w fun e w'=>e = .returned (ruleV (parseW ws))/\Below w.heap.size w w':=by
 by_cases h6:ws.length=6
 ·obtain ⟨a,b,c,d,e,f,rfl⟩:∃ a b c d e f,ws=[a,b,c,d,e,f]:=by
   match ws,h6 with
   | [a,b,c,d,e,f],_=>exact ⟨_,_,_,_,_,_,rfl⟩
  obtain ⟨g,cap,rfl,hg,h1,h2,hc⟩:=hr.at_ (by simp)
  exact parse_six a b c d e f g cap w he ⟨hg,hc 0 _ rfl,hc 1 _ rfl,hc 2 _ rfl,hc 3 _ rfl,hc 4 _ rfl,hc 5 _ rfl⟩ h1 (by unfold maxLen at h2;omega) (hl c (by simp)) (hl d (by simp)) (hl e (by simp)) (hl f (by simp))
 ·rw [RulM.parseW_len h6]
  exact parse_short v ws w h6 hr
theorem info_rule:(Tryz.prog.info? 80).map (fun i=>(i.zero,i.size,i.bytes))=some (some (.agg zR),10,48):=by kernel_rfl
theorem cells_ten (w:World) (r:R) (t:TypeId):∀ j u,(cellsR r)[j]? = some u->(w.alloc (.cells (cR r) t)).cell? ((⟨w.heap.size,0,none⟩:Addr).add j)=some u:=by
 intro j u hj
 have hb:Blk (w.alloc (.cells (cR r) t)) w.heap.size (cR r) t:=Blk.box _ _ _
 rw [add_plain',Nat.zero_add]
 exact hb.cell j u (by rw [← hj];show (cellsR r).toArray[j]? = _;exact List.getElem?_toArray)
theorem wpList_append_rule {w W0:World} {ops:Array Oper} {rest:List Oper} {o:Oper} {a:Act} {Q:Exit->Act->World->Prop} (hgd:o.guard=none) (s x:Operand)
  (ho:o.op = .call { callee:=.builtin .append,args:=#[s,x],argTypes:=#[25,25] })
  (v:Value) (rs:List R) (hs:a.eval s=v) (hown:w.ownsRow W0.heap.size 80 10 v rs.length (cellsRs rs)) (hbel:Below W0.heap.size W0 w) (r:R)
  (hx:a.eval x = .slice (some ⟨w.heap.size,0,none⟩) 1 1) (hlen:rs.length<=100000)
  (h:∀ v' w',Hid (w'.ownsRow W0.heap.size 80 10 v' (rs ++ [r]).length (cellsRs (rs ++ [r])))->Hid (Below W0.heap.size W0 w')->wpList Tryz.prog ops Q rest (a.put o.dst v') w') :
  wpList Tryz.prog ops Q (o :: rest) a (w.alloc (.cells (cR r) 80)):=by
 obtain ⟨i,hi,hz0,hz1,hz2⟩:=Tx.parts_of info_rule
 have hown1:=hown.alloc (.cells (cR r) 80)
 have hb1:Below W0.heap.size W0 (w.alloc (.cells (cR r) 80)):=hbel.alloc hbel.size _
 refine wpList_append_own (P:=Tryz.prog) _ hgd s x 25 ho W0.heap.size 80 i (.agg zR) 10 48 Tryz.underlying25 hi hz0 hz1 hz2 rfl (by decide) v rs.length (cellsRs rs) hs hown1
  ⟨w.heap.size,0,none⟩ 1 1 (cellsR r) hx rfl (cells_ten _ _ _) (by intro u hu;simp [cellsR] at hu;rcases hu with rfl | rfl | rfl | rfl | rfl | rfl | rfl | rfl | rfl | rfl <;> rfl) (by unfold maxLen;omega) (by omega) hb1.size ?_
 intro v' w' h1 h2 _
 refine h v' w' ?_ (hb1.grown h2 hb1.size fun k hk=>(hown1.lt k hk).1)
 show w'.ownsRow _ _ _ _ _ _
 rw [List.length_append,cellsRs_append]
 have e:cellsRs [r]=cellsR r:=by simp [cellsRs]
 rw [e]
 exact h1
theorem lineAt {w:World} {v:Value} {ls:List Line} (h:Tx.Lines w v ls) {k n:Nat} {ws:List (List UInt8)} (hk:ls[k]? = some (n,ws)) :
  ∃ g cap b,v = .slice (some ⟨g,0,none⟩) ls.length cap/\g < w.heap.size/\w.cell? ⟨g,k * 2,none⟩=some (.int .i64 (n:Int))/\w.cell? ⟨g,k * 2+1,none⟩=some b/\Tx.Row w 9 w.heap.size b ws.length (ws.map Tx.strV):=h.at_ hk
end Ru
end Go.Proofs.YtcockldefmmhbaaGreatDoor
set_option linter.unusedVariables false
set_option maxRecDepth 100000
set_option linter.unusedSimpArgs false
namespace Go.Proofs.YtcockldefmmhbaaGreatDoor
open Go.ChangeShapes Go.WideShapes Go.ChangeAt Go.RowKit Go.Mtl Go.Shelf Go.Lib
namespace Ru
open RulM (R wordS known protoP spanS spanP parseW acceptL dropL comp compile)
open AdrM (anyL netS)
open TxtM (Line errOf lineOf linesOf)
def AnsN (l:List UInt8) (W:World) (e:Ending) (w':World):Prop:=∃ v,e = .returned (.tuple #[v,.int .i64 ((compile l).2.1:Int),.int .i64 ((compile l).2.2:Int)])/\Rds w' w'.heap.size v (compile l).1/\(∀ g,v.ownBlock=some g->W.heap.size<=g)/\Below W.heap.size W w'
theorem ansN_no {l:List UInt8} {W w':World} {a b:Int} (h:(compile l).1=[]) (ha:a=((compile l).2.1:Int)) (hb:b=((compile l).2.2:Int)) (hw:Below W.heap.size W w'):AnsN l W (.returned (.tuple #[.slice none 0 0,.int .i64 a,.int .i64 b])) w' :=
 ⟨.slice none 0 0,by rw [ha,hb],by rw [h];exact Rds.nil w' _,(fun g e=>by cases e),hw⟩
set_option maxRecDepth 100000 in
set_option maxHeartbeats 2000000 in
theorem compile_new (s:ByteArray) (w:World) (hs:s.size<=maxLen) (he:Env w):Calls Tryz.prog 73 #[.string s] w (AnsN s.data.toList w):=by
 have HL:=Lib.hid (Tx.lines_any s w hs he.tx)
 have HE:=Lib.hid he
 clear he hs
 obtain ⟨l,hl⟩:∃ l,s.data.toList=l:=⟨_,rfl⟩
 rw [hl] at HL ⊢
 clear hl
 unfold Tx.Ans at HL
 by_cases h0:errOf l=0
 ·have HC:Hid (compile l=comp [] (linesOf l)):=by show _=_;unfold RulM.compile;rw [if_pos h0]
  have HWD:=Lib.hid (fun n ws hm=>RulM.words_of (l:=l) h0 (n:=n) (ws:=ws) hm)
  rw [h0] at HL
  clear h0
  go_enter Tryz.func73,Tryz.ntmps73
  go_wp2_with fail
  go_at_call 112
  refine HL.out.mono ?_
  rintro e w1 ⟨v1,rfl,hl1,hb1⟩
  obtain ⟨A1,c1,rfl⟩:=hl1.len
  have HLS:=Lib.hid hl1
  have HB1:=Lib.hid hb1
  clear hl1 hb1 HL
  generalize linesOf l=ls at *
  generalize lineOf l=ln at *
  obtain ⟨n,hn⟩:∃ n,ls.length=n:=⟨_,rfl⟩
  rw [hn] at HLS ⊢
  have HN:=Lib.hid hn
  clear hn
  go_wp2_with fail
  go_loopw [2,22] (fun v i wr=>∃ (k:Nat) (acc:List R),k<=n/\k<=64/\i = .int .i64 (k:Int)/\acc.length=k/\Hid (wr.ownsRow w1.heap.size 80 10 v acc.length (cellsRs acc))/\Hid (comp [] ls=comp acc (ls.drop k))/\Hid (Below w1.heap.size w1 wr)) (fun _ i _=>n - (RowKit.intOf i).toNat)
  case atStart=>exact ⟨0,[],by omega,by omega,rfl,rfl,World.ownsRow_nil _ _ _ _,by show _=_;rw [List.drop_zero],Below.refl _ _⟩
  case round =>
   obtain ⟨k,acc,hk,hk64,rfl,hacc,hown,hcomp,hb⟩:=hrel
   have HACC:=Lib.hid hacc
   clear hacc
   by_cases hlt:k < n
   ·obtain ⟨⟨m,wd⟩,hkl⟩:∃ x,ls[k]? = some x:=⟨_,List.getElem?_eq_getElem (by have:=HN.out;omega)⟩
    obtain ⟨g,cap,b,hv,hg,hc0,hc1,hrow⟩:=lineAt HLS.out hkl
    injection hv with hv1 hv2 hv3
    subst hv1 hv3
    have d0:=(hb.out.cell (p:=⟨g,k * 2,none⟩) hg).trans hc0
    have d1:=(hb.out.cell (p:=⟨g,k * 2+1,none⟩) hg).trans hc1
    obtain ⟨bA,bc,rfl⟩:=hrow.len
    have HKL:=Lib.hid hkl
    have HR:=Lib.hid (hrow.below hb.out (Nat.le_refl _))
    have HOWN:=Lib.hid (hown.out.alloc (.cells #[.int .i64 (m:Int),.slice bA wd.length bc] 177))
    have HBB:=Lib.hid (below_then hb.out (below_box wr (.cells #[.int .i64 (m:Int),.slice bA wd.length bc] 177)))
    clear hv2 hc0 hc1 hrow hkl
    by_cases hk2:k=64
    ·subst hk2
     have HM:Hid (compile l=([],m,14)):=HC.out.trans (hcomp.out.trans (RulM.comp_many HKL.out HACC.out))
     go_wp2_with fail
     go_quiet (fail)
     go_wp2_with fail
     have HBW:=Lib.hid (HB1.out.trans (HBB.out.mono HB1.out.size))
     exact bodyPost_ret (v:=.tuple #[.slice none 0 0,.int .i64 (m:Int),.int .i64 14]) (by simp [results,Tryz.results73,go_sem]) rfl (ansN_no (by rw [HM.out]) (by rw [HM.out]) (by rw [HM.out];rfl) (HBW.out.drews _))
    ·have hkd:((k:Int) == 64)=false:=by rw [beq_eq_false_iff_ne];omega
     have hwl:=HWD.out m wd (List.mem_of_getElem? HKL.out)
     have HBX:Hid (Blk (wr.alloc (.cells #[.int .i64 (m:Int),.slice bA wd.length bc] 177)) wr.heap.size #[.int .i64 (m:Int),.slice bA wd.length bc] 177):=Blk.box _ _ _
     have HPA:=Lib.hid (parse_any (.slice bA wd.length bc) wd (wr.alloc (.cells #[.int .i64 (m:Int),.slice bA wd.length bc] 177)) ((HE.out.below HB1.out).below HBB.out)
      ((HR.out.below (below_box wr _) hb.out.size).mono (by have:=hb.out.size;simp;omega)) (fun x hx=>(hwl x hx).1))
     clear hwl
     cases hp:parseW wd with
     | none =>
      rw [hp] at HPA
      have HM:Hid (compile l=([],m,3)):=HC.out.trans (hcomp.out.trans (RulM.comp_bad HKL.out (by rw [HACC.out];exact hk2) hp))
      clear hp hk2
      go_wp2_with fail
      go_at_call 113
      refine HPA.out.mono ?_
      rintro e w2 ⟨rfl,hb2⟩
      unfold ruleV zR
      have HBW:=Lib.hid (HB1.out.trans ((below_then HBB.out hb2).mono HB1.out.size))
      have e0:=(HBX.out.next hb2).cell 0 _ rfl
      have e0':=((HBX.out.next hb2).alloc (.cells zR 80)).cell 0 _ rfl
      clear hb2 d0 d1
      go_wp2_with fail
      go_quiet (fail)
      go_wp2_with fail
      exact bodyPost_ret (v:=.tuple #[.slice none 0 0,.int .i64 (m:Int),.int .i64 3]) (by simp [results,Tryz.results73,go_sem]) rfl (ansN_no (by rw [HM.out]) (by rw [HM.out]) (by rw [HM.out];rfl) ((HBW.out.alloc HBW.out.size _).drews _))
     | some r =>
      rw [hp] at HPA
      have HM:Hid (comp [] ls=comp (acc ++ [r]) (ls.drop (k+1))):=hcomp.out.trans (RulM.comp_step HKL.out (by rw [HACC.out];exact hk2) hp)
      have HK65:Hid (k+1<=64):=by show _<=_;omega
      clear hp hk2
      go_wp2_with fail
      go_at_call 113
      refine HPA.out.mono ?_
      rintro e w2 ⟨rfl,hb2⟩
      unfold ruleV cR
      have HB2:=Lib.hid (below_then HBB.out hb2)
      have HB3:=Lib.hid (below_then (below_then HBB.out hb2) (below_box w2 (.cells (cR r) 80)))
      have HO3:=Lib.hid ((own_below HOWN.out hb2).alloc (.cells (cR r) 80))
      have K3:=Lib.hid (Blk.box w2 (cR r) 80)
      clear hb2 d0 d1
      go_wp2_with (at_builtin;refine wpList_append_rule rfl (.tmp 41) (.tmp 43) rfl _ acc rfl HO3.out HB3.out r (by rw [World.size_alloc];rfl) (by have:=HACC.out;omega) ?_;intro v3 w3 hown3 hb3)
      go_roundw
      case rel=>exact ⟨k+1,acc ++ [r],by omega,HK65.out,by go_num,by rw [List.length_append,HACC.out];rfl,hown3,HM,hb3⟩
      case measure=>simp [RowKit.intOf];omega
   ·obtain rfl:k=n:=by omega
    have HM:Hid (compile l=(acc,0,0)):=HC.out.trans (hcomp.out.trans (RulM.comp_end (by have:=HN.out;omega)))
    go_wp2_with fail
    exact bodyPost_ret (v:=.tuple #[u2,.int .i64 0,.int .i64 0]) (by simp [results,Tryz.results73,go_sem]) rfl ⟨u2,by rw [HM.out];rfl,by rw [HM.out];exact Rds.of_own hown.out,fun g e=>Nat.le_trans HB1.out.size (hown.out.lt g e).1,HB1.out.trans (hb.out.mono HB1.out.size)⟩
 ·have HC:Hid (compile l=([],lineOf l,errOf l)):=by show _=_;unfold RulM.compile;rw [if_neg h0]
  have hd:((errOf l:Int) != 0)=true:=by rw [bne_iff_ne];omega
  clear h0
  generalize linesOf l=ls at *
  generalize lineOf l=ln at *
  generalize errOf l=le at *
  go_enter Tryz.func73,Tryz.ntmps73
  go_wp2_with fail
  go_at_call 112
  refine HL.out.mono ?_
  rintro e w1 ⟨v1,rfl,-,hb1⟩
  have HB1:=Lib.hid hb1
  clear hb1 HL
  go_wp2_with fail
  exact bodyPost_ret (v:=.tuple #[.slice none 0 0,.int .i64 (ln:Int),.int .i64 (le:Int)]) (by simp [results,Tryz.results73,go_sem]) rfl (ansN_no (by rw [HC.out]) (by rw [HC.out]) (by rw [HC.out]) HB1.out)
end Ru
end Go.Proofs.YtcockldefmmhbaaGreatDoor
