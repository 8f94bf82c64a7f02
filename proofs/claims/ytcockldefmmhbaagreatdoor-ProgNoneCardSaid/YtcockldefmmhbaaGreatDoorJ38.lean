/- Several texts of this proof in one file, each in its own namespace. -/
import Derived.Test.YtcockldefmmhbaaGreatDoorRulA
import Derived.Test.YtcockldefmmhbaaGreatDoorJ18
import Derived.Test.YtcockldefmmhbaaGreatDoorJ35
import Derived.Test.YtcockldefmmhbaaGreatDoorJ12
import Derived.Lib.ItoaMem
import Derived.Deep.RegionHeldLaw
import Derived.Deep.RegionHeld3
import Derived.IntWalk
set_option linter.unusedVariables false
set_option maxRecDepth 100000
set_option linter.unusedSimpArgs false
namespace Go.Proofs.YtcockldefmmhbaaGreatDoor
open Go.ChangeShapes Go.WideShapes Go.ChangeAt Go.RowKit Go.Mtl Go.Shelf Go.Lib
namespace Ru
open RulM (R wordS known protoP known_iff spanS netL verdL goodR goodR_iff wordsR)
open AdrM (anyL validS showS)
structure Env (w:World):Prop where
 ad:Ad.Env w
 tx:Tx.Env w
theorem Env.below {w w':World} (h:Env w) (hb:Below w.heap.size w w'):Env w':=⟨h.ad.below hb,h.tx.below hb⟩
theorem Env.alloc {w:World} (h:Env w) (o:Obj):Env (w.alloc o):=⟨h.ad.alloc o,h.tx.alloc o⟩
theorem Env.drewN {w:World} (h:Env w) (n:Nat):Env (w.drewN n):=⟨h.ad.drewN n,h.tx.drewN n⟩
theorem below_drewN (w:World) (n:Nat):Below w.heap.size w (w.drewN n):=⟨rfl,rfl,rfl,Nat.le_refl _,fun _ _=>rfl⟩
theorem below_then {w w1 w2:World} (h:Below w.heap.size w w1) (h2:Below w1.heap.size w1 w2):Below w.heap.size w w2:=h.trans (h2.mono h.size)
theorem below_box (w:World) (o:Obj):Below w.heap.size w (w.alloc o):=(Below.refl _ _).alloc (Nat.le_refl _) _
theorem show_good {a:Nat} {n:Int} (h:validS a n=true):Ad.showRes a n = .tuple #[.string ⟨(netL a n).toArray⟩,.int .i64 0]:=by
 unfold Ad.showRes;rw [RulM.show_yes h]
set_option maxRecDepth 100000 in
theorem isNet_any (a:Nat) (n:Int) (ha:a < 4294967296) (w:World) (he:Ad.Env w) :
  Calls Tryz.prog 130 #[.agg #[.int .u32 (a:Int),.int .i64 n]] w fun e w'=>e = .returned (.bool (validS a n))/\Below w.heap.size w w':=by
 have HN:=Lib.hid (Ad.netAt_box w a n)
 have HS:=Lib.hid (Ad.show_any a n ha (Ad.boxed w a n) (he.alloc _))
 clear he
 cases hv:validS a n with
 | false =>
  rw [Ad.showRes_bad hv] at HS
  clear hv
  obtain ⟨hc0,hc1,-,-⟩:=HN.out
  go_enter Tryz.func130,Tryz.ntmps130
  go_wp2_with fail
  go_at_call 185
  refine HS.out.mono ?_
  rintro e w1 ⟨rfl,hb⟩
  have HB:=Lib.hid (below_then (below_box _ _) hb)
  clear hb hc0 hc1
  go_wp2_with fail
  go_ret
  exact ⟨rfl,HB.out⟩
 | true =>
  rw [show_good hv] at HS
  clear hv
  obtain ⟨hc0,hc1,-,-⟩:=HN.out
  go_enter Tryz.func130,Tryz.ntmps130
  go_wp2_with fail
  go_at_call 185
  refine HS.out.mono ?_
  rintro e w1 ⟨rfl,hb⟩
  have HB:=Lib.hid (below_then (below_box _ _) hb)
  clear hb hc0 hc1
  go_wp2_with fail
  go_ret
  exact ⟨rfl,HB.out⟩
theorem isSpan_any (a b:Nat) (w:World) :
  Calls Tryz.prog 131 #[.agg #[.int .u16 (a:Int),.int .u16 (b:Int)]] w fun e w'=>e = .returned (.bool (decide (a<=b)))/\Below w.heap.size w w':=by
 have HB:=Lib.hid (below_box w (.cells #[.int .u16 (a:Int),.int .u16 (b:Int)] 78))
 go_enter Tryz.func131,Tryz.ntmps131
 go_wp2_with fail
 go_ret
 exact ⟨rfl,HB.out⟩
theorem itoa_port (n:Nat) (hn:n < 65536) (w:World) (he:Ad.Env w) (x:Int) (hx:x=(n:Int)) :
  Calls Tryz.prog 244 #[.int .i64 x] w fun e w'=>e = .returned (.string ⟨(decDigits n).toArray⟩)/\Below w.heap.size w w':=by
 subst hx
 refine (Tryz.strconv_Itoa (n:Int) (by omega) (by omega) w he.tab).mono fun e w' ⟨h1,k,os,h2⟩=>⟨?_,?_⟩
 ·rw [h1]
  have:itoa (n:Int)=decDigits n:=by unfold itoa;rw [if_neg (by omega)];rfl
  rw [this]
 ·rw [h2];exact Ad.below_grow w k os
theorem ret_str {a b:List UInt8} (h:a=b):Ending.returned (.string ⟨a.toArray⟩) = .returned (.string ⟨b.toArray⟩):=by rw [h]
theorem span_one {a b:Nat} (h : ¬ (a=0/\b=65535)) (h2:a=b):spanS a b=decDigits a:=by unfold spanS;rw [if_neg h,if_pos h2]
theorem span_two {a b:Nat} (h : ¬ (a=0/\b=65535)) (h2:a≠b):spanS a b=(decDigits a ++ [45]) ++ decDigits b:=by unfold spanS;rw [if_neg h,if_neg h2];simp
set_option maxRecDepth 100000 in
set_option maxHeartbeats 1000000 in
theorem showSpan_any (a b:Nat) (ha:a < 65536) (hb:b < 65536) (w:World) (he:Ad.Env w) :
  Calls Tryz.prog 219 #[.agg #[.int .u16 (a:Int),.int .u16 (b:Int)]] w fun e w'=>e = .returned (.string ⟨(spanS a b).toArray⟩)/\Below w.heap.size w w':=by
 have HB:=Lib.hid (below_box w (.cells #[.int .u16 (a:Int),.int .u16 (b:Int)] 78))
 have HE:=Lib.hid he
 clear he
 by_cases h1:a=0/\b=65535
 ·obtain ⟨rfl,rfl⟩:=h1
  go_enter Tryz.func219,Tryz.ntmps219
  go_wp2_with fail
  go_ret
  exact ⟨rfl,HB.out⟩
 ·by_cases h2:a=b
  ·have HS:=Lib.hid (span_one h1 h2)
   subst h2
   clear h1
   have HI:=Lib.hid (fun W (h:Below w.heap.size w W)=>itoa_port a ha W (HE.out.below h) (a:Int) rfl)
   have hlt:(a:Int) < 65536:=by omega
   go_enter Tryz.func219,Tryz.ntmps219
   by_cases h0:a=0
   ·subst h0
    go_wp2_with fail
    go_at_call 244
    refine (HI.out _ HB.out).mono ?_
    rintro e w1 ⟨rfl,hb1⟩
    have HB1:=Lib.hid hb1
    have hc0:w1.cell? ⟨w.heap.size,0,none⟩=some (.int .u16 0):=(hb1.cell (by simp)).trans (by simp)
    have hc1:w1.cell? ⟨w.heap.size,1,none⟩=some (.int .u16 0):=(hb1.cell (by simp)).trans (by simp)
    clear hb1
    go_wp2_with fail
    go_ret
    exact ⟨ret_str HS.out.symm,below_then HB.out HB1.out⟩
   ·have hd:((a:Int) == 0)=false:=by rw [beq_eq_false_iff_ne];omega
    clear h0
    go_wp2_with fail
    go_at_call 244
    refine (HI.out _ HB.out).mono ?_
    rintro e w1 ⟨rfl,hb1⟩
    have HB1:=Lib.hid hb1
    have hc0:w1.cell? ⟨w.heap.size,0,none⟩=some (.int .u16 (a:Int)):=(hb1.cell (by simp)).trans (by simp)
    have hc1:w1.cell? ⟨w.heap.size,1,none⟩=some (.int .u16 (a:Int)):=(hb1.cell (by simp)).trans (by simp)
    clear hb1
    go_wp2_with fail
    go_ret
    exact ⟨ret_str HS.out.symm,below_then HB.out HB1.out⟩
  ·have HS:=Lib.hid (span_two h1 h2)
   have HI:=Lib.hid (fun W (h:Below w.heap.size w W)=>itoa_port a ha W (HE.out.below h) (a:Int) rfl)
   have HJ:=Lib.hid (fun W (h:Below w.heap.size w W)=>itoa_port b hb W (HE.out.below h) (b:Int) rfl)
   have hab:((a:Int) == (b:Int))=false:=by rw [beq_eq_false_iff_ne];omega
   have l1:=AdrM.decDigits_len_le 4 a (by omega)
   have l2:=AdrM.decDigits_len_le 4 b (by omega)
   have hA1:=fun W=>Ad.add_text (P:=Tryz.prog) (decDigits a) [45] (by omega) (by simp) W
   have hA2:=fun W=>Ad.add_text (P:=Tryz.prog) (decDigits a ++ [45]) (decDigits b) (by simp;omega) (by omega) W
   clear l1 l2
   generalize decDigits a=da at *
   generalize decDigits b=db at *
   by_cases h0:a=0
   ·have hd0:((a:Int) == 0)=true:=by rw [beq_iff_eq];omega
    have hd1:((b:Int) == 65535)=false:=by rw [beq_eq_false_iff_ne];omega
    clear h0 h1 h2
    go_enter Tryz.func219,Tryz.ntmps219
    go_wp2_with fail
    go_at_call 244
    refine (HI.out _ HB.out).mono ?_
    rintro e w1 ⟨rfl,hb1⟩
    have HB1:=Lib.hid (below_then HB.out hb1)
    have hc0:w1.cell? ⟨w.heap.size,0,none⟩=some (.int .u16 (a:Int)):=(hb1.cell (by simp)).trans (by simp)
    have hc1:w1.cell? ⟨w.heap.size,1,none⟩=some (.int .u16 (b:Int)):=(hb1.cell (by simp)).trans (by simp)
    clear hb1
    go_wp2_with fail
    go_at_call 244
    refine (HJ.out _ HB1.out).mono ?_
    rintro e w2 ⟨rfl,hb2⟩
    have HB2:=Lib.hid (below_then HB1.out hb2)
    clear hb2 hc0 hc1
    go_wp2_with fail
    go_ret
    exact ⟨ret_str (by rw [HS.out];simp),HB2.out⟩
   ·have hd0:((a:Int) == 0)=false:=by rw [beq_eq_false_iff_ne];omega
    clear h0 h1 h2
    go_enter Tryz.func219,Tryz.ntmps219
    go_wp2_with fail
    go_at_call 244
    refine (HI.out _ HB.out).mono ?_
    rintro e w1 ⟨rfl,hb1⟩
    have HB1:=Lib.hid (below_then HB.out hb1)
    have hc0:w1.cell? ⟨w.heap.size,0,none⟩=some (.int .u16 (a:Int)):=(hb1.cell (by simp)).trans (by simp)
    have hc1:w1.cell? ⟨w.heap.size,1,none⟩=some (.int .u16 (b:Int)):=(hb1.cell (by simp)).trans (by simp)
    clear hb1
    go_wp2_with fail
    go_at_call 244
    refine (HJ.out _ HB1.out).mono ?_
    rintro e w2 ⟨rfl,hb2⟩
    have HB2:=Lib.hid (below_then HB1.out hb2)
    clear hb2 hc0 hc1
    go_wp2_with fail
    go_ret
    exact ⟨ret_str (by rw [HS.out];simp),HB2.out⟩
end Ru
end Go.Proofs.YtcockldefmmhbaaGreatDoor
set_option linter.unusedVariables false
set_option maxRecDepth 100000
set_option linter.unusedSimpArgs false
namespace Go.Proofs.YtcockldefmmhbaaGreatDoor
open Go.ChangeShapes Go.WideShapes Go.ChangeAt Go.RowKit Go.Mtl Go.Shelf Go.Lib
namespace Ru
open RulM (R wordS known protoP known_iff spanS netL verdL goodR goodR_iff wordsR)
open AdrM (anyL validS showS)
abbrev cR (r:R):Array Value:=#[.bool r.acc,.int .u8 (r.pr:Int),.int .u32 (r.sa:Int),.int .i64 r.sb,.int .u32 (r.da:Int),.int .i64 r.db,.int .u16 (r.sl:Int),.int .u16 (r.sh:Int),.int .u16 (r.dl:Int),.int .u16 (r.dh:Int)]
structure RAt (w:World) (g:Nat) (r:R) (W:World):Prop where
 blk:Blk W g (cR r) 80
 bel:Below w.heap.size w W
theorem RAt.box (w:World) (r:R):RAt w w.heap.size r (w.alloc (.cells (cR r) 80)):=⟨Blk.box _ _ _,below_box _ _⟩
theorem RAt.next {w W W':World} {g:Nat} {r:R} (h:RAt w g r W) (hb:Below W.heap.size W W'):RAt w g r W':=⟨h.blk.next hb,below_then h.bel hb⟩
theorem RAt.c0 {w W:World} {g:Nat} {r:R} (h:RAt w g r W):W.cell? ⟨g,0,none⟩=some (.bool r.acc):=h.blk.cell 0 _ rfl
theorem RAt.c1 {w W:World} {g:Nat} {r:R} (h:RAt w g r W):W.cell? ⟨g,1,none⟩=some (.int .u8 (r.pr:Int)):=h.blk.cell 1 _ rfl
theorem RAt.c2 {w W:World} {g:Nat} {r:R} (h:RAt w g r W):W.cell? ⟨g,2,none⟩=some (.int .u32 (r.sa:Int)):=h.blk.cell 2 _ rfl
theorem RAt.c3 {w W:World} {g:Nat} {r:R} (h:RAt w g r W):W.cell? ⟨g,3,none⟩=some (.int .i64 r.sb):=h.blk.cell 3 _ rfl
theorem RAt.c4 {w W:World} {g:Nat} {r:R} (h:RAt w g r W):W.cell? ⟨g,4,none⟩=some (.int .u32 (r.da:Int)):=h.blk.cell 4 _ rfl
theorem RAt.c5 {w W:World} {g:Nat} {r:R} (h:RAt w g r W):W.cell? ⟨g,5,none⟩=some (.int .i64 r.db):=h.blk.cell 5 _ rfl
theorem RAt.c6 {w W:World} {g:Nat} {r:R} (h:RAt w g r W):W.cell? ⟨g,6,none⟩=some (.int .u16 (r.sl:Int)):=h.blk.cell 6 _ rfl
theorem RAt.c7 {w W:World} {g:Nat} {r:R} (h:RAt w g r W):W.cell? ⟨g,7,none⟩=some (.int .u16 (r.sh:Int)):=h.blk.cell 7 _ rfl
theorem RAt.c8 {w W:World} {g:Nat} {r:R} (h:RAt w g r W):W.cell? ⟨g,8,none⟩=some (.int .u16 (r.dl:Int)):=h.blk.cell 8 _ rfl
theorem RAt.c9 {w W:World} {g:Nat} {r:R} (h:RAt w g r W):W.cell? ⟨g,9,none⟩=some (.int .u16 (r.dh:Int)):=h.blk.cell 9 _ rfl
theorem ret_bool {a b:Bool} (h:a=b):Ending.returned (.bool a) = .returned (.bool b):=by rw [h]
set_option maxRecDepth 100000 in
set_option maxHeartbeats 1000000 in
theorem good_0 (r:R) (ho:r.Ok) (w:World) (he:Env w)  (h0:known r.pr=false) :
  Calls Tryz.prog 93 #[.agg #[.bool r.acc,.int .u8 (r.pr:Int),.int .u32 (r.sa:Int),.int .i64 r.sb,.int .u32 (r.da:Int),.int .i64 r.db,.int .u16 (r.sl:Int),.int .u16 (r.sh:Int),.int .u16 (r.dl:Int),.int .u16 (r.dh:Int)]] w fun e w'=>e = .returned (.bool false)/\Below w.heap.size w w':=by
 have H0:=Lib.hid (fun W (h:Below w.heap.size w W)=>protocolWord_any r.pr ho.pr W)
 rw [h0] at H0
 have K:=RAt.box w r
 clear he ho h0
 have HK0:=Lib.hid K
 have d1:=K.c1
 clear K
 go_enter Tryz.func93,Tryz.ntmps93
 go_wp2_with fail
 go_at_call 129
 refine (H0.out _ HK0.out.bel).mono ?_
 rintro e w1 ⟨rfl,hb⟩
 have HK1:=Lib.hid (HK0.out.next hb)
 clear hb d1
 go_wp2_with fail
 go_ret
 exact ⟨rfl,HK1.out.bel⟩
set_option maxRecDepth 100000 in
set_option maxHeartbeats 1000000 in
theorem good_1 (r:R) (ho:r.Ok) (w:World) (he:Env w) (h0:known r.pr=true) (h1:validS r.sa r.sb=false) :
  Calls Tryz.prog 93 #[.agg #[.bool r.acc,.int .u8 (r.pr:Int),.int .u32 (r.sa:Int),.int .i64 r.sb,.int .u32 (r.da:Int),.int .i64 r.db,.int .u16 (r.sl:Int),.int .u16 (r.sh:Int),.int .u16 (r.dl:Int),.int .u16 (r.dh:Int)]] w fun e w'=>e = .returned (.bool false)/\Below w.heap.size w w':=by
 have H0:=Lib.hid (fun W (h:Below w.heap.size w W)=>protocolWord_any r.pr ho.pr W)
 rw [h0] at H0
 have H1:=Lib.hid (fun W (h:Below w.heap.size w W)=>isNet_any r.sa r.sb ho.sa W (he.ad.below h))
 rw [h1] at H1
 have K:=RAt.box w r
 clear he ho h0 h1
 have HK0:=Lib.hid K
 have d1:=K.c1
 clear K
 go_enter Tryz.func93,Tryz.ntmps93
 go_wp2_with fail
 go_at_call 129
 refine (H0.out _ HK0.out.bel).mono ?_
 rintro e w1 ⟨rfl,hb⟩
 have HK1:=Lib.hid (HK0.out.next hb)
 have d2:=HK1.out.c2
 have d3:=HK1.out.c3
 clear hb d1
 go_wp2_with fail
 go_at_call 130
 refine (H1.out _ HK1.out.bel).mono ?_
 rintro e w2 ⟨rfl,hb⟩
 have HK2:=Lib.hid (HK1.out.next hb)
 clear hb d2 d3
 go_wp2_with fail
 go_ret
 exact ⟨rfl,HK2.out.bel⟩
set_option maxRecDepth 100000 in
set_option maxHeartbeats 1000000 in
theorem good_2 (r:R) (ho:r.Ok) (w:World) (he:Env w) (h0:known r.pr=true) (h1:validS r.sa r.sb=true) (h2:validS r.da r.db=false) :
  Calls Tryz.prog 93 #[.agg #[.bool r.acc,.int .u8 (r.pr:Int),.int .u32 (r.sa:Int),.int .i64 r.sb,.int .u32 (r.da:Int),.int .i64 r.db,.int .u16 (r.sl:Int),.int .u16 (r.sh:Int),.int .u16 (r.dl:Int),.int .u16 (r.dh:Int)]] w fun e w'=>e = .returned (.bool false)/\Below w.heap.size w w':=by
 have H0:=Lib.hid (fun W (h:Below w.heap.size w W)=>protocolWord_any r.pr ho.pr W)
 rw [h0] at H0
 have H1:=Lib.hid (fun W (h:Below w.heap.size w W)=>isNet_any r.sa r.sb ho.sa W (he.ad.below h))
 rw [h1] at H1
 have H2:=Lib.hid (fun W (h:Below w.heap.size w W)=>isNet_any r.da r.db ho.da W (he.ad.below h))
 rw [h2] at H2
 have K:=RAt.box w r
 clear he ho h0 h1 h2
 have HK0:=Lib.hid K
 have d1:=K.c1
 clear K
 go_enter Tryz.func93,Tryz.ntmps93
 go_wp2_with fail
 go_at_call 129
 refine (H0.out _ HK0.out.bel).mono ?_
 rintro e w1 ⟨rfl,hb⟩
 have HK1:=Lib.hid (HK0.out.next hb)
 have d2:=HK1.out.c2
 have d3:=HK1.out.c3
 clear hb d1
 go_wp2_with fail
 go_at_call 130
 refine (H1.out _ HK1.out.bel).mono ?_
 rintro e w2 ⟨rfl,hb⟩
 have HK2:=Lib.hid (HK1.out.next hb)
 have d4:=HK2.out.c4
 have d5:=HK2.out.c5
 clear hb d2 d3
 go_wp2_with fail
 go_at_call 130
 refine (H2.out _ HK2.out.bel).mono ?_
 rintro e w3 ⟨rfl,hb⟩
 have HK3:=Lib.hid (HK2.out.next hb)
 clear hb d4 d5
 go_wp2_with fail
 go_ret
 exact ⟨rfl,HK3.out.bel⟩
set_option maxRecDepth 100000 in
set_option maxHeartbeats 1000000 in
theorem good_3 (r:R) (ho:r.Ok) (w:World) (he:Env w) (h0:known r.pr=true) (h1:validS r.sa r.sb=true) (h2:validS r.da r.db=true) (h3:decide (r.sl<=r.sh)=false) :
  Calls Tryz.prog 93 #[.agg #[.bool r.acc,.int .u8 (r.pr:Int),.int .u32 (r.sa:Int),.int .i64 r.sb,.int .u32 (r.da:Int),.int .i64 r.db,.int .u16 (r.sl:Int),.int .u16 (r.sh:Int),.int .u16 (r.dl:Int),.int .u16 (r.dh:Int)]] w fun e w'=>e = .returned (.bool false)/\Below w.heap.size w w':=by
 have H0:=Lib.hid (fun W (h:Below w.heap.size w W)=>protocolWord_any r.pr ho.pr W)
 rw [h0] at H0
 have H1:=Lib.hid (fun W (h:Below w.heap.size w W)=>isNet_any r.sa r.sb ho.sa W (he.ad.below h))
 rw [h1] at H1
 have H2:=Lib.hid (fun W (h:Below w.heap.size w W)=>isNet_any r.da r.db ho.da W (he.ad.below h))
 rw [h2] at H2
 have H3:=Lib.hid (fun W (h:Below w.heap.size w W)=>isSpan_any r.sl r.sh W)
 rw [h3] at H3
 have K:=RAt.box w r
 clear he ho h0 h1 h2 h3
 have HK0:=Lib.hid K
 have d1:=K.c1
 clear K
 go_enter Tryz.func93,Tryz.ntmps93
 go_wp2_with fail
 go_at_call 129
 refine (H0.out _ HK0.out.bel).mono ?_
 rintro e w1 ⟨rfl,hb⟩
 have HK1:=Lib.hid (HK0.out.next hb)
 have d2:=HK1.out.c2
 have d3:=HK1.out.c3
 clear hb d1
 go_wp2_with fail
 go_at_call 130
 refine (H1.out _ HK1.out.bel).mono ?_
 rintro e w2 ⟨rfl,hb⟩
 have HK2:=Lib.hid (HK1.out.next hb)
 have d4:=HK2.out.c4
 have d5:=HK2.out.c5
 clear hb d2 d3
 go_wp2_with fail
 go_at_call 130
 refine (H2.out _ HK2.out.bel).mono ?_
 rintro e w3 ⟨rfl,hb⟩
 have HK3:=Lib.hid (HK2.out.next hb)
 have d6:=HK3.out.c6
 have d7:=HK3.out.c7
 clear hb d4 d5
 go_wp2_with fail
 go_at_call 131
 refine (H3.out _ HK3.out.bel).mono ?_
 rintro e w4 ⟨rfl,hb⟩
 have HK4:=Lib.hid (HK3.out.next hb)
 clear hb d6 d7
 go_wp2_with fail
 go_ret
 exact ⟨rfl,HK4.out.bel⟩
set_option maxRecDepth 100000 in
set_option maxHeartbeats 1000000 in
theorem good_4 (r:R) (ho:r.Ok) (w:World) (he:Env w) (h0:known r.pr=true) (h1:validS r.sa r.sb=true) (h2:validS r.da r.db=true) (h3:decide (r.sl<=r.sh)=true) (h4:decide (r.dl<=r.dh)=false) :
  Calls Tryz.prog 93 #[.agg #[.bool r.acc,.int .u8 (r.pr:Int),.int .u32 (r.sa:Int),.int .i64 r.sb,.int .u32 (r.da:Int),.int .i64 r.db,.int .u16 (r.sl:Int),.int .u16 (r.sh:Int),.int .u16 (r.dl:Int),.int .u16 (r.dh:Int)]] w fun e w'=>e = .returned (.bool false)/\Below w.heap.size w w':=by
 have H0:=Lib.hid (fun W (h:Below w.heap.size w W)=>protocolWord_any r.pr ho.pr W)
 rw [h0] at H0
 have H1:=Lib.hid (fun W (h:Below w.heap.size w W)=>isNet_any r.sa r.sb ho.sa W (he.ad.below h))
 rw [h1] at H1
 have H2:=Lib.hid (fun W (h:Below w.heap.size w W)=>isNet_any r.da r.db ho.da W (he.ad.below h))
 rw [h2] at H2
 have H3:=Lib.hid (fun W (h:Below w.heap.size w W)=>isSpan_any r.sl r.sh W)
 rw [h3] at H3
 have H4:=Lib.hid (fun W (h:Below w.heap.size w W)=>isSpan_any r.dl r.dh W)
 rw [h4] at H4
 have K:=RAt.box w r
 clear he ho h0 h1 h2 h3 h4
 have HK0:=Lib.hid K
 have d1:=K.c1
 clear K
 go_enter Tryz.func93,Tryz.ntmps93
 go_wp2_with fail
 go_at_call 129
 refine (H0.out _ HK0.out.bel).mono ?_
 rintro e w1 ⟨rfl,hb⟩
 have HK1:=Lib.hid (HK0.out.next hb)
 have d2:=HK1.out.c2
 have d3:=HK1.out.c3
 clear hb d1
 go_wp2_with fail
 go_at_call 130
 refine (H1.out _ HK1.out.bel).mono ?_
 rintro e w2 ⟨rfl,hb⟩
 have HK2:=Lib.hid (HK1.out.next hb)
 have d4:=HK2.out.c4
 have d5:=HK2.out.c5
 clear hb d2 d3
 go_wp2_with fail
 go_at_call 130
 refine (H2.out _ HK2.out.bel).mono ?_
 rintro e w3 ⟨rfl,hb⟩
 have HK3:=Lib.hid (HK2.out.next hb)
 have d6:=HK3.out.c6
 have d7:=HK3.out.c7
 clear hb d4 d5
 go_wp2_with fail
 go_at_call 131
 refine (H3.out _ HK3.out.bel).mono ?_
 rintro e w4 ⟨rfl,hb⟩
 have HK4:=Lib.hid (HK3.out.next hb)
 have d8:=HK4.out.c8
 have d9:=HK4.out.c9
 clear hb d6 d7
 go_wp2_with fail
 go_at_call 131
 refine (H4.out _ HK4.out.bel).mono ?_
 rintro e w5 ⟨rfl,hb⟩
 have HK5:=Lib.hid (HK4.out.next hb)
 clear hb d8 d9
 go_wp2_with fail
 go_ret
 exact ⟨rfl,HK5.out.bel⟩
set_option maxRecDepth 100000 in
set_option maxHeartbeats 1000000 in
theorem good_5 (r:R) (ho:r.Ok) (w:World) (he:Env w) (h0:known r.pr=true) (h1:validS r.sa r.sb=true) (h2:validS r.da r.db=true) (h3:decide (r.sl<=r.sh)=true) (h4:decide (r.dl<=r.dh)=true) :
  Calls Tryz.prog 93 #[.agg #[.bool r.acc,.int .u8 (r.pr:Int),.int .u32 (r.sa:Int),.int .i64 r.sb,.int .u32 (r.da:Int),.int .i64 r.db,.int .u16 (r.sl:Int),.int .u16 (r.sh:Int),.int .u16 (r.dl:Int),.int .u16 (r.dh:Int)]] w fun e w'=>e = .returned (.bool true)/\Below w.heap.size w w':=by
 have H0:=Lib.hid (fun W (h:Below w.heap.size w W)=>protocolWord_any r.pr ho.pr W)
 rw [h0] at H0
 have H1:=Lib.hid (fun W (h:Below w.heap.size w W)=>isNet_any r.sa r.sb ho.sa W (he.ad.below h))
 rw [h1] at H1
 have H2:=Lib.hid (fun W (h:Below w.heap.size w W)=>isNet_any r.da r.db ho.da W (he.ad.below h))
 rw [h2] at H2
 have H3:=Lib.hid (fun W (h:Below w.heap.size w W)=>isSpan_any r.sl r.sh W)
 rw [h3] at H3
 have H4:=Lib.hid (fun W (h:Below w.heap.size w W)=>isSpan_any r.dl r.dh W)
 rw [h4] at H4
 have K:=RAt.box w r
 clear he ho h0 h1 h2 h3 h4
 have HK0:=Lib.hid K
 have d1:=K.c1
 clear K
 go_enter Tryz.func93,Tryz.ntmps93
 go_wp2_with fail
 go_at_call 129
 refine (H0.out _ HK0.out.bel).mono ?_
 rintro e w1 ⟨rfl,hb⟩
 have HK1:=Lib.hid (HK0.out.next hb)
 have d2:=HK1.out.c2
 have d3:=HK1.out.c3
 clear hb d1
 go_wp2_with fail
 go_at_call 130
 refine (H1.out _ HK1.out.bel).mono ?_
 rintro e w2 ⟨rfl,hb⟩
 have HK2:=Lib.hid (HK1.out.next hb)
 have d4:=HK2.out.c4
 have d5:=HK2.out.c5
 clear hb d2 d3
 go_wp2_with fail
 go_at_call 130
 refine (H2.out _ HK2.out.bel).mono ?_
 rintro e w3 ⟨rfl,hb⟩
 have HK3:=Lib.hid (HK2.out.next hb)
 have d6:=HK3.out.c6
 have d7:=HK3.out.c7
 clear hb d4 d5
 go_wp2_with fail
 go_at_call 131
 refine (H3.out _ HK3.out.bel).mono ?_
 rintro e w4 ⟨rfl,hb⟩
 have HK4:=Lib.hid (HK3.out.next hb)
 have d8:=HK4.out.c8
 have d9:=HK4.out.c9
 clear hb d6 d7
 go_wp2_with fail
 go_at_call 131
 refine (H4.out _ HK4.out.bel).mono ?_
 rintro e w5 ⟨rfl,hb⟩
 have HK5:=Lib.hid (HK4.out.next hb)
 clear hb d8 d9
 go_wp2_with fail
 go_ret
 exact ⟨rfl,HK5.out.bel⟩
theorem good_any (r:R) (ho:r.Ok) (w:World) (he:Env w) :
  Calls Tryz.prog 93 #[.agg #[.bool r.acc,.int .u8 (r.pr:Int),.int .u32 (r.sa:Int),.int .i64 r.sb,.int .u32 (r.da:Int),.int .i64 r.db,.int .u16 (r.sl:Int),.int .u16 (r.sh:Int),.int .u16 (r.dl:Int),.int .u16 (r.dh:Int)]] w fun e w'=>e = .returned (.bool (goodR r))/\Below w.heap.size w w':=by
 unfold goodR
 cases h0:known r.pr with
 | false=>exact (good_0 r ho w he h0).mono fun e w' ⟨a,b⟩=>⟨by rw [a];simp only [h0,Bool.false_and,Bool.and_false],b⟩
 | true =>
  cases h1:validS r.sa r.sb with
  | false=>exact (good_1 r ho w he h0 h1).mono fun e w' ⟨a,b⟩=>⟨by rw [a];simp only [h1,Bool.false_and,Bool.and_false],b⟩
  | true =>
   cases h2:validS r.da r.db with
   | false=>exact (good_2 r ho w he h0 h1 h2).mono fun e w' ⟨a,b⟩=>⟨by rw [a];simp only [h2,Bool.false_and,Bool.and_false],b⟩
   | true =>
    cases h3:decide (r.sl<=r.sh) with
    | false=>exact (good_3 r ho w he h0 h1 h2 h3).mono fun e w' ⟨a,b⟩=>⟨by rw [a];simp only [h3,Bool.false_and,Bool.and_false],b⟩
    | true =>
     cases h4:decide (r.dl<=r.dh) with
     | false=>exact (good_4 r ho w he h0 h1 h2 h3 h4).mono fun e w' ⟨a,b⟩=>⟨by rw [a];simp only [h4,Bool.false_and,Bool.and_false],b⟩
     | true =>
      exact (good_5 r ho w he h0 h1 h2 h3 h4).mono fun e w' ⟨a,b⟩=>⟨by rw [a];rfl,b⟩
end Ru
end Go.Proofs.YtcockldefmmhbaaGreatDoor
set_option linter.unusedVariables false
set_option maxRecDepth 100000
set_option linter.unusedSimpArgs false
namespace Go.Proofs.YtcockldefmmhbaaGreatDoor
open Go.ChangeShapes Go.WideShapes Go.ChangeAt Go.RowKit Go.Mtl Go.Shelf Go.Lib
namespace Ru
open RulM (R wordS known protoP spanS spanP portN lowS highS icmpL tcpL udpL)
open AdrM (anyL)
open TxtM (okN valN)
theorem beq_list (s t:ByteArray):(s == t)=decide (s.data.toList=t.data.toList):=by
 rw [Bool.eq_iff_iff,MapKept.bytes_beq,decide_eq_true_iff]
 exact ⟨fun e=>by rw [e],fun e=>Ad.ba_eq e⟩
def protoN (l:List UInt8):Nat:=(protoP l).getD 0
def protoB (l:List UInt8):Bool:=(protoP l).isSome
theorem zero_u8 (W:World):(zeroValue 5).run Tryz.prog W = .ok (.int .u8 0) W:=by
 obtain ⟨i0,hi0,hz0,_,_⟩:=info_parts Ad.u8_info
 simp [zeroValue,typeInfo,hi0,hz0]
theorem look_any (s:ByteArray) (W:World) (b:Nat) (hb:W.heap[b]? = some (.map pm 4)) :
  (Instr.lookup 222 (.map (some b)) (.string s) true).run Tryz.prog W = .ok (.tuple #[.int .u8 (protoN s.data.toList:Int),.bool (protoB s.data.toList)]) W:=by
 have hf:∃ a,Instr.findNow .string (.string s) pm.toList 0=some a/\((a=none/\protoP s.data.toList=none)\/∃ j p:Nat,a=some (j,.int .u8 (p:Int))/\protoP s.data.toList=some p):=by
  have e1:(s == kAny)=decide (s.data.toList=anyL):=beq_list s kAny
  have e2:(s == kIcmp)=decide (s.data.toList=icmpL):=beq_list s kIcmp
  have e3:(s == kTcp)=decide (s.data.toList=tcpL):=beq_list s kTcp
  have e4:(s == kUdp)=decide (s.data.toList=udpL):=beq_list s kUdp
  unfold protoP
  have hpm:pm.toList=[{ key:=.string kAny,val:=.int .u8 0,born:=0 },{ key:=.string kIcmp,val:=.int .u8 1,born:=1 },{ key:=.string kTcp,val:=.int .u8 6,born:=2 },{ key:=.string kUdp,val:=.int .u8 17,born:=3 }]:=rfl
  rw [hpm]
  by_cases h1:s.data.toList=anyL
  ·have b1:_=true:=e1.trans (decide_eq_true h1)
   rw [if_pos h1]
   exact ⟨some (0,.int .u8 0),by simp only [Instr.findNow,Instr.sameNow,b1],.inr ⟨0,0,rfl,rfl⟩⟩
  ·have b1:_=false:=e1.trans (decide_eq_false h1)
   by_cases h2:s.data.toList=icmpL
   ·have b2:_=true:=e2.trans (decide_eq_true h2)
    rw [if_neg h1,if_pos h2]
    exact ⟨some (1,.int .u8 1),by simp only [Instr.findNow,Instr.sameNow,b1,b2],.inr ⟨1,1,rfl,rfl⟩⟩
   ·have b2:_=false:=e2.trans (decide_eq_false h2)
    by_cases h3:s.data.toList=tcpL
    ·have b3:_=true:=e3.trans (decide_eq_true h3)
     rw [if_neg h1,if_neg h2,if_pos h3]
     exact ⟨some (2,.int .u8 6),by simp only [Instr.findNow,Instr.sameNow,b1,b2,b3],.inr ⟨2,6,rfl,rfl⟩⟩
    ·have b3:_=false:=e3.trans (decide_eq_false h3)
     by_cases h4:s.data.toList=udpL
     ·have b4:_=true:=e4.trans (decide_eq_true h4)
      rw [if_neg h1,if_neg h2,if_neg h3,if_pos h4]
      exact ⟨some (3,.int .u8 17),by simp only [Instr.findNow,Instr.sameNow,b1,b2,b3,b4],.inr ⟨3,17,rfl,rfl⟩⟩
     ·have b4:_=false:=e4.trans (decide_eq_false h4)
      rw [if_neg h1,if_neg h2,if_neg h3,if_neg h4]
      exact ⟨none,by simp only [Instr.findNow,Instr.sameNow,b1,b2,b3,b4],.inl ⟨rfl,rfl⟩⟩
 obtain ⟨a,ha,hcase⟩:=hf
 have hk:=MapKept.run_findKey (P:=Tryz.prog) (w:=W) Tryz.underlying9 ha
 have hck:=MapKept.run_checkKey (P:=Tryz.prog) (w:=W) Tryz.underlying9 (k:=.string s) trivial
 rcases hcase with ⟨rfl,hp⟩ | ⟨j,p,rfl,hp⟩
 ·simp [Instr.lookup,run_underlying Tryz.underlying222,MapKept.run_getObj_map hb,hck,hk,zero_u8,Result.andThen,protoN,protoB,hp]
 ·simp [Instr.lookup,run_underlying Tryz.underlying222,MapKept.run_getObj_map hb,hck,hk,Result.andThen,protoN,protoB,hp]
def portV (o:Option Nat):Value:=match o with
 | some n=>.tuple #[.int .u16 (n:Int),.bool true]
 | none=>.tuple #[.int .u16 0,.bool false]
set_option maxRecDepth 100000 in
theorem port_any (l:List UInt8) (w:World) (hl:l.length<=1000000) :
  Calls Tryz.prog 218 #[.string ⟨l.toArray⟩] w fun e w'=>e = .returned (portV (portN l))/\w'=w:=by
 have e0:(⟨l.toArray⟩:ByteArray).data.toList=l:=by simp
 have HN:=Lib.hid (Tx.number_any ⟨l.toArray⟩ w (by unfold maxLen;simp [ByteArray.size];omega))
 rw [e0] at HN
 obtain ⟨V,hV⟩:∃ V,portV (portN l)=V:=⟨_,rfl⟩
 rw [hV]
 unfold RulM.portN at hV
 clear e0 hl
 cases hk:okN l with
 | false =>
  rw [hk] at HN hV
  have HP:Hid (V = .tuple #[.int .u16 0,.bool false]):=by show _=_;rw [← hV,if_neg (by simp)];rfl
  clear hk hV
  generalize valN l=n at *
  go_enter Tryz.func218,Tryz.ntmps218
  go_wp2_with fail
  go_at_call 268
  refine HN.out.mono ?_
  rintro e w1 ⟨rfl,rfl⟩
  go_wp2_with fail
  go_ret2
  exact ⟨by rw [HP.out];rfl,rfl⟩
 | true =>
  rw [hk] at HN hV
  clear hk
  generalize valN l=n at *
  by_cases h:n<=65535
  ·have HP:Hid (V = .tuple #[.int .u16 (n:Int),.bool true]):=by show _=_;rw [← hV,if_pos ⟨rfl,h⟩];rfl
   have hc:IntKind.u16.wrap (n:Int)=(n:Int):=IntWalk.u16_in _ (by omega)
   clear hV
   go_enter Tryz.func218,Tryz.ntmps218
   go_wp2_with fail
   go_at_call 268
   refine HN.out.mono ?_
   rintro e w1 ⟨rfl,rfl⟩
   go_wp2_with fail
   go_ret2
   exact ⟨by rw [HP.out];rfl,rfl⟩
  ·have HP:Hid (V = .tuple #[.int .u16 0,.bool false]):=by show _=_;rw [← hV,if_neg (fun e=>h e.2)];rfl
   clear hV
   go_enter Tryz.func218,Tryz.ntmps218
   go_wp2_with fail
   go_at_call 268
   refine HN.out.mono ?_
   rintro e w1 ⟨rfl,rfl⟩
   go_wp2_with fail
   go_ret2
   exact ⟨by rw [HP.out];rfl,rfl⟩
theorem cut_len (c:UInt8) (l:List UInt8):(cut l [c]).1.length<=l.length/\(cut l [c]).2.1.length<=l.length:=by
 by_cases h:c ∈ l
 ·obtain ⟨p,r,e,hp⟩:=AdrM.part_at c l h
  rw [e,RulM.cut_hit c p r hp]
  simp;omega
 ·rw [RulM.cut_miss c l h];simp
theorem portV_none:portV none = .tuple #[.int .u16 0,.bool false]:=rfl
theorem portV_some (n:Nat):portV (some n) = .tuple #[.int .u16 (n:Int),.bool true]:=rfl
theorem portV_form (o:Option Nat):∃ (x:Int) (y:Bool),portV o = .tuple #[.int .u16 x,.bool y]:=by
 cases o with
 | none=>exact ⟨_,_,rfl⟩
 | some n=>exact ⟨_,_,rfl⟩
def spanV (o:Option (Nat × Nat)):Value:=match o with
 | some (a,b)=>.tuple #[.agg #[.int .u16 (a:Int),.int .u16 (b:Int)],.bool true]
 | none=>.tuple #[.agg #[.int .u16 0,.int .u16 0],.bool false]
structure SAt (w:World) (g:Nat) (x y:Value) (W:World):Prop where
 blk:Blk W g #[x,y] 78
 bel:Below w.heap.size w W
 le:w.heap.size<=g
theorem SAt.box {w W:World} (x y:Value) (hb:Below w.heap.size w W):SAt w W.heap.size x y (W.alloc (.cells #[x,y] 78)):=⟨Blk.box _ _ _,hb.alloc hb.size _,hb.size⟩
theorem SAt.next {w W W':World} {g:Nat} {x y:Value} (h:SAt w g x y W) (hb:Below W.heap.size W W'):SAt w g x y W':=⟨h.blk.next hb,below_then h.bel hb,h.le⟩
theorem SAt.c0 {w W:World} {g:Nat} {x y:Value} (h:SAt w g x y W):W.cell? ⟨g,0,none⟩=some x:=h.blk.cell 0 _ rfl
theorem SAt.c1 {w W:World} {g:Nat} {x y:Value} (h:SAt w g x y W):W.cell? ⟨g,1,none⟩=some y:=h.blk.cell 1 _ rfl
theorem SAt.f {w W:World} {g:Nat} {x y:Value} (h:SAt w g x y W) (i:Nat):W.frozen? ⟨g,i,none⟩=false:=h.blk.frozen i
theorem SAt.put {w W:World} {g:Nat} {x y:Value} (h:SAt w g x y W) (u v:Value):SAt w g u v ((W.setCell ⟨g,0,none⟩ u).setCell ⟨g,1,none⟩ v) :=
 ⟨(h.blk.set 0 u).set' 1 v rfl,(h.bel.setCell (p:=⟨g,0,none⟩) h.le u).setCell (p:=⟨g,1,none⟩) h.le v,h.le⟩
theorem cut_dash (l:List UInt8) (hl:l.length<=4096) (w:World) (he:Ad.Env w) :
  Calls Tryz.prog 213 #[.string ⟨l.toArray⟩,.string ⟨#[45]⟩] w fun e w'=>e = .returned (.tuple #[.string ⟨(cut l [45]).1.toArray⟩,.string ⟨(cut l [45]).2.1.toArray⟩,.bool (cut l [45]).2.2])/\∃ k,w'=w.drewN k:=by
 obtain ⟨m,hm⟩:=he.max
 have h:=Tryz.strings_Cut ⟨l.toArray⟩ ⟨#[45]⟩ m w (by simp [ByteArray.size];omega) hm
 have e:(⟨#[45]⟩:ByteArray).data.toList=[45]:=rfl
 have e0:(⟨l.toArray⟩:ByteArray).data.toList=l:=by simp
 rw [e,e0] at h
 exact h
set_option maxRecDepth 100000 in
theorem span_parse_any (w:World):Calls Tryz.prog 162 #[.string ⟨#[97,110,121]⟩] w fun e w'=>e = .returned (spanV (some (0,65535)))/\Below w.heap.size w w':=by
 have HZ:=Lib.hid (SAt.box (.int .u16 0) (.int .u16 0) (Below.refl w.heap.size w))
 go_enter Tryz.func162,Tryz.ntmps162
 go_wp2_with fail
 exact bodyPost_ret (v:=spanV (some (0,65535))) (by simp [results,Tryz.results162,go_sem,spanV]) rfl ⟨rfl,below_box _ _⟩
set_option maxRecDepth 100000 in
set_option maxHeartbeats 1000000 in
theorem span_true_1 (l p q:List UInt8) (hl:l.length<=4096) (hne:l≠anyL) (w:World) (he:Ad.Env w) (hp:p.length<=4096) (hq:q.length<=4096) (hc:cut l [45]=(p,q,true)) (h1:portN p=none) :
  Calls Tryz.prog 162 #[.string ⟨l.toArray⟩] w fun e w'=>e = .returned (spanV none)/\Below w.heap.size w w':=by
 have ht:(l == [97,110,121])=false:=by simpa [anyL] using hne
 have HZ:=Lib.hid (SAt.box (.int .u16 0) (.int .u16 0) (Below.refl w.heap.size w))
 have HC:=Lib.hid (cut_dash l hl (w.alloc (.cells #[.int .u16 0,.int .u16 0] 78)) (he.alloc _))
 rw [hc] at HC
 have HL:=Lib.hid (fun W=>port_any p W (by omega))
 rw [h1,portV_none] at HL
 have HH:=Lib.hid (fun W=>port_any q W (by omega))
 obtain ⟨x2,y2,e2⟩:=portV_form (portN q)
 rw [e2] at HH
 clear e2
 clear hl hne he hp hq hc h1
 go_enter Tryz.func162,Tryz.ntmps162
 go_wp2_with fail
 go_at_call 213
 refine HC.out.mono ?_
 rintro e w1 ⟨rfl,k,rfl⟩
 have HZ1:=Lib.hid (HZ.out.next (below_drewN _ k))
 clear HZ HC
 generalize (w.alloc (.cells #[.int .u16 0,.int .u16 0] 78)).drewN k=w1 at *
 go_wp2_with fail
 go_at_call 218
 refine (HL.out _).mono ?_
 rintro e w2 ⟨rfl,rfl⟩
 go_wp2_with fail
 go_at_call 218
 refine (HH.out _).mono ?_
 rintro e w3 ⟨rfl,rfl⟩
 have HZ2:=Lib.hid (HZ1.out.next (below_box w3 (.cells #[.int .u16 0,.int .u16 x2] 78)))
 have c0:=HZ2.out.c0
 have c1:=HZ2.out.c1
 have f0:=HZ2.out.f 0
 have f1:=HZ2.out.f 1
 go_wp2_with fail
 have HY:=Lib.hid (HZ2.out.put (.int .u16 0) (.int .u16 0))
 have r0:=HY.out.c0
 have r1:=HY.out.c1
 exact bodyPost_ret (v:=spanV none) (by simp [results,Tryz.results162,go_sem,spanV,r0,r1]) rfl ⟨rfl,HY.out.bel⟩
set_option maxRecDepth 100000 in
set_option maxHeartbeats 1000000 in
theorem span_true_2 (l p q:List UInt8) (hl:l.length<=4096) (hne:l≠anyL) (w:World) (he:Ad.Env w) (hp:p.length<=4096) (hq:q.length<=4096) (hc:cut l [45]=(p,q,true)) (a:Nat) (h1:portN p=some a) (h2:portN q=none) :
  Calls Tryz.prog 162 #[.string ⟨l.toArray⟩] w fun e w'=>e = .returned (spanV none)/\Below w.heap.size w w':=by
 have ht:(l == [97,110,121])=false:=by simpa [anyL] using hne
 have HZ:=Lib.hid (SAt.box (.int .u16 0) (.int .u16 0) (Below.refl w.heap.size w))
 have HC:=Lib.hid (cut_dash l hl (w.alloc (.cells #[.int .u16 0,.int .u16 0] 78)) (he.alloc _))
 rw [hc] at HC
 have HL:=Lib.hid (fun W=>port_any p W (by omega))
 rw [h1,portV_some] at HL
 have HH:=Lib.hid (fun W=>port_any q W (by omega))
 rw [h2,portV_none] at HH
 clear hl hne he hp hq hc h1 h2
 go_enter Tryz.func162,Tryz.ntmps162
 go_wp2_with fail
 go_at_call 213
 refine HC.out.mono ?_
 rintro e w1 ⟨rfl,k,rfl⟩
 have HZ1:=Lib.hid (HZ.out.next (below_drewN _ k))
 clear HZ HC
 generalize (w.alloc (.cells #[.int .u16 0,.int .u16 0] 78)).drewN k=w1 at *
 go_wp2_with fail
 go_at_call 218
 refine (HL.out _).mono ?_
 rintro e w2 ⟨rfl,rfl⟩
 go_wp2_with fail
 go_at_call 218
 refine (HH.out _).mono ?_
 rintro e w3 ⟨rfl,rfl⟩
 have HZ2:=Lib.hid (HZ1.out.next (below_box w3 (.cells #[.int .u16 (a:Int),.int .u16 0] 78)))
 have c0:=HZ2.out.c0
 have c1:=HZ2.out.c1
 have f0:=HZ2.out.f 0
 have f1:=HZ2.out.f 1
 go_wp2_with fail
 have HY:=Lib.hid (HZ2.out.put (.int .u16 0) (.int .u16 0))
 have r0:=HY.out.c0
 have r1:=HY.out.c1
 exact bodyPost_ret (v:=spanV none) (by simp [results,Tryz.results162,go_sem,spanV,r0,r1]) rfl ⟨rfl,HY.out.bel⟩
set_option maxRecDepth 100000 in
set_option maxHeartbeats 1000000 in
theorem span_true_3 (l p q:List UInt8) (hl:l.length<=4096) (hne:l≠anyL) (w:World) (he:Ad.Env w) (hp:p.length<=4096) (hq:q.length<=4096) (hc:cut l [45]=(p,q,true)) (a b:Nat) (h1:portN p=some a) (h2:portN q=some b) (h3 : ¬ a<=b) :
  Calls Tryz.prog 162 #[.string ⟨l.toArray⟩] w fun e w'=>e = .returned (spanV none)/\Below w.heap.size w w':=by
 have ht:(l == [97,110,121])=false:=by simpa [anyL] using hne
 have HZ:=Lib.hid (SAt.box (.int .u16 0) (.int .u16 0) (Below.refl w.heap.size w))
 have HC:=Lib.hid (cut_dash l hl (w.alloc (.cells #[.int .u16 0,.int .u16 0] 78)) (he.alloc _))
 rw [hc] at HC
 have HL:=Lib.hid (fun W=>port_any p W (by omega))
 rw [h1,portV_some] at HL
 have HH:=Lib.hid (fun W=>port_any q W (by omega))
 rw [h2,portV_some] at HH
 have b1:a<=65535:=(RulM.portN_some.1 h1).2
 have b2:b<=65535:=(RulM.portN_some.1 h2).2
 have HS:=Lib.hid (fun W=>isSpan_any a b W)
 rw [decide_eq_false h3] at HS
 clear hl hne he hp hq hc h1 h2 h3
 go_enter Tryz.func162,Tryz.ntmps162
 go_wp2_with fail
 go_at_call 213
 refine HC.out.mono ?_
 rintro e w1 ⟨rfl,k,rfl⟩
 have HZ1:=Lib.hid (HZ.out.next (below_drewN _ k))
 clear HZ HC
 generalize (w.alloc (.cells #[.int .u16 0,.int .u16 0] 78)).drewN k=w1 at *
 go_wp2_with fail
 go_at_call 218
 refine (HL.out _).mono ?_
 rintro e w2 ⟨rfl,rfl⟩
 go_wp2_with fail
 go_at_call 218
 refine (HH.out _).mono ?_
 rintro e w3 ⟨rfl,rfl⟩
 have HX:=Lib.hid (SAt.box (.int .u16 (a:Int)) (.int .u16 (b:Int)) HZ1.out.bel)
 have HZ2:=Lib.hid (HZ1.out.next (below_box w3 (.cells #[.int .u16 (a:Int),.int .u16 (b:Int)] 78)))
 go_wp2_with fail
 go_at_call 131
 refine (HS.out _).mono ?_
 rintro e w4 ⟨rfl,hb⟩
 have HZ3:=Lib.hid (HZ2.out.next hb)
 have HX3:=Lib.hid (HX.out.next hb)
 clear hb HZ2 HX
 have c0:=HZ3.out.c0
 have c1:=HZ3.out.c1
 have f0:=HZ3.out.f 0
 have f1:=HZ3.out.f 1
 go_wp2_with fail
 have HY:=Lib.hid (HZ3.out.put (.int .u16 0) (.int .u16 0))
 have r0:=HY.out.c0
 have r1:=HY.out.c1
 exact bodyPost_ret (v:=spanV none) (by simp [results,Tryz.results162,go_sem,spanV,r0,r1]) rfl ⟨rfl,HY.out.bel⟩
set_option maxRecDepth 100000 in
set_option maxHeartbeats 1000000 in
theorem span_true_4 (l p q:List UInt8) (hl:l.length<=4096) (hne:l≠anyL) (w:World) (he:Ad.Env w) (hp:p.length<=4096) (hq:q.length<=4096) (hc:cut l [45]=(p,q,true)) (a b:Nat) (h1:portN p=some a) (h2:portN q=some b) (h3:a<=b) (h4:spanS a b≠l) :
  Calls Tryz.prog 162 #[.string ⟨l.toArray⟩] w fun e w'=>e = .returned (spanV none)/\Below w.heap.size w w':=by
 have ht:(l == [97,110,121])=false:=by simpa [anyL] using hne
 have HZ:=Lib.hid (SAt.box (.int .u16 0) (.int .u16 0) (Below.refl w.heap.size w))
 have HC:=Lib.hid (cut_dash l hl (w.alloc (.cells #[.int .u16 0,.int .u16 0] 78)) (he.alloc _))
 rw [hc] at HC
 have HL:=Lib.hid (fun W=>port_any p W (by omega))
 rw [h1,portV_some] at HL
 have HH:=Lib.hid (fun W=>port_any q W (by omega))
 rw [h2,portV_some] at HH
 have b1:a<=65535:=(RulM.portN_some.1 h1).2
 have b2:b<=65535:=(RulM.portN_some.1 h2).2
 have HS:=Lib.hid (fun W=>isSpan_any a b W)
 rw [decide_eq_true h3] at HS
 have HW:=Lib.hid (fun W (h:Below w.heap.size w W)=>showSpan_any a b (by omega) (by omega) W (he.below h))
 have hq2:(spanS a b == l)=false:=by rw [beq_eq_false_iff_ne];exact h4
 clear h4
 clear hl hne he hp hq hc h1 h2 h3
 go_enter Tryz.func162,Tryz.ntmps162
 go_wp2_with fail
 go_at_call 213
 refine HC.out.mono ?_
 rintro e w1 ⟨rfl,k,rfl⟩
 have HZ1:=Lib.hid (HZ.out.next (below_drewN _ k))
 clear HZ HC
 generalize (w.alloc (.cells #[.int .u16 0,.int .u16 0] 78)).drewN k=w1 at *
 go_wp2_with fail
 go_at_call 218
 refine (HL.out _).mono ?_
 rintro e w2 ⟨rfl,rfl⟩
 go_wp2_with fail
 go_at_call 218
 refine (HH.out _).mono ?_
 rintro e w3 ⟨rfl,rfl⟩
 have HX:=Lib.hid (SAt.box (.int .u16 (a:Int)) (.int .u16 (b:Int)) HZ1.out.bel)
 have HZ2:=Lib.hid (HZ1.out.next (below_box w3 (.cells #[.int .u16 (a:Int),.int .u16 (b:Int)] 78)))
 go_wp2_with fail
 go_at_call 131
 refine (HS.out _).mono ?_
 rintro e w4 ⟨rfl,hb⟩
 have HZ3:=Lib.hid (HZ2.out.next hb)
 have HX3:=Lib.hid (HX.out.next hb)
 clear hb HZ2 HX
 have g0:=HX3.out.c0
 have g1:=HX3.out.c1
 go_wp2_with fail
 go_at_call 219
 refine (HW.out _ HZ3.out.bel).mono ?_
 rintro e w5 ⟨rfl,hb⟩
 have HZ4:=Lib.hid (HZ3.out.next hb)
 have HX4:=Lib.hid (HX3.out.next hb)
 clear hb HZ3 HX3 g0 g1
 have c0:=HZ4.out.c0
 have c1:=HZ4.out.c1
 have f0:=HZ4.out.f 0
 have f1:=HZ4.out.f 1
 go_wp2_with fail
 have HY:=Lib.hid (HZ4.out.put (.int .u16 0) (.int .u16 0))
 have r0:=HY.out.c0
 have r1:=HY.out.c1
 exact bodyPost_ret (v:=spanV none) (by simp [results,Tryz.results162,go_sem,spanV,r0,r1]) rfl ⟨rfl,HY.out.bel⟩
set_option maxRecDepth 100000 in
set_option maxHeartbeats 1000000 in
theorem span_true_5 (l p q:List UInt8) (hl:l.length<=4096) (hne:l≠anyL) (w:World) (he:Ad.Env w) (hp:p.length<=4096) (hq:q.length<=4096) (hc:cut l [45]=(p,q,true)) (a b:Nat) (h1:portN p=some a) (h2:portN q=some b) (h3:a<=b) (h4:spanS a b=l) :
  Calls Tryz.prog 162 #[.string ⟨l.toArray⟩] w fun e w'=>e = .returned (spanV (some (a,b)))/\Below w.heap.size w w':=by
 have ht:(l == [97,110,121])=false:=by simpa [anyL] using hne
 have HZ:=Lib.hid (SAt.box (.int .u16 0) (.int .u16 0) (Below.refl w.heap.size w))
 have HC:=Lib.hid (cut_dash l hl (w.alloc (.cells #[.int .u16 0,.int .u16 0] 78)) (he.alloc _))
 rw [hc] at HC
 have HL:=Lib.hid (fun W=>port_any p W (by omega))
 rw [h1,portV_some] at HL
 have HH:=Lib.hid (fun W=>port_any q W (by omega))
 rw [h2,portV_some] at HH
 have b1:a<=65535:=(RulM.portN_some.1 h1).2
 have b2:b<=65535:=(RulM.portN_some.1 h2).2
 have HS:=Lib.hid (fun W=>isSpan_any a b W)
 rw [decide_eq_true h3] at HS
 have HW:=Lib.hid (fun W (h:Below w.heap.size w W)=>showSpan_any a b (by omega) (by omega) W (he.below h))
 have hq2:(spanS a b == l)=true:=by rw [beq_iff_eq];exact h4
 clear h4
 clear hl hne he hp hq hc h1 h2 h3
 go_enter Tryz.func162,Tryz.ntmps162
 go_wp2_with fail
 go_at_call 213
 refine HC.out.mono ?_
 rintro e w1 ⟨rfl,k,rfl⟩
 have HZ1:=Lib.hid (HZ.out.next (below_drewN _ k))
 clear HZ HC
 generalize (w.alloc (.cells #[.int .u16 0,.int .u16 0] 78)).drewN k=w1 at *
 go_wp2_with fail
 go_at_call 218
 refine (HL.out _).mono ?_
 rintro e w2 ⟨rfl,rfl⟩
 go_wp2_with fail
 go_at_call 218
 refine (HH.out _).mono ?_
 rintro e w3 ⟨rfl,rfl⟩
 have HX:=Lib.hid (SAt.box (.int .u16 (a:Int)) (.int .u16 (b:Int)) HZ1.out.bel)
 have HZ2:=Lib.hid (HZ1.out.next (below_box w3 (.cells #[.int .u16 (a:Int),.int .u16 (b:Int)] 78)))
 go_wp2_with fail
 go_at_call 131
 refine (HS.out _).mono ?_
 rintro e w4 ⟨rfl,hb⟩
 have HZ3:=Lib.hid (HZ2.out.next hb)
 have HX3:=Lib.hid (HX.out.next hb)
 clear hb HZ2 HX
 have g0:=HX3.out.c0
 have g1:=HX3.out.c1
 go_wp2_with fail
 go_at_call 219
 refine (HW.out _ HZ3.out.bel).mono ?_
 rintro e w5 ⟨rfl,hb⟩
 have HZ4:=Lib.hid (HZ3.out.next hb)
 have HX4:=Lib.hid (HX3.out.next hb)
 clear hb HZ3 HX3 g0 g1
 have g0:=HX4.out.c0
 have g1:=HX4.out.c1
 have c0:=HZ4.out.c0
 have c1:=HZ4.out.c1
 have f0:=HZ4.out.f 0
 have f1:=HZ4.out.f 1
 go_wp2_with fail
 have HY:=Lib.hid (HZ4.out.put (.int .u16 (a:Int)) (.int .u16 (b:Int)))
 have r0:=HY.out.c0
 have r1:=HY.out.c1
 exact bodyPost_ret (v:=spanV (some (a,b))) (by simp [results,Tryz.results162,go_sem,spanV,r0,r1]) rfl ⟨rfl,HY.out.bel⟩
set_option maxRecDepth 100000 in
set_option maxHeartbeats 1000000 in
theorem span_false_1 (l p q:List UInt8) (hl:l.length<=4096) (hne:l≠anyL) (w:World) (he:Ad.Env w) (hp:p.length<=4096) (hq:q.length<=4096) (hc:cut l [45]=(p,q,false)) (h1:portN p=none) :
  Calls Tryz.prog 162 #[.string ⟨l.toArray⟩] w fun e w'=>e = .returned (spanV none)/\Below w.heap.size w w':=by
 have ht:(l == [97,110,121])=false:=by simpa [anyL] using hne
 have HZ:=Lib.hid (SAt.box (.int .u16 0) (.int .u16 0) (Below.refl w.heap.size w))
 have HC:=Lib.hid (cut_dash l hl (w.alloc (.cells #[.int .u16 0,.int .u16 0] 78)) (he.alloc _))
 rw [hc] at HC
 have HL:=Lib.hid (fun W=>port_any p W (by omega))
 rw [h1,portV_none] at HL
 have HH:=Lib.hid (fun W=>port_any p W (by omega))
 rw [h1,portV_none] at HH
 clear hl hne he hp hq hc h1
 go_enter Tryz.func162,Tryz.ntmps162
 go_wp2_with fail
 go_at_call 213
 refine HC.out.mono ?_
 rintro e w1 ⟨rfl,k,rfl⟩
 have HZ1:=Lib.hid (HZ.out.next (below_drewN _ k))
 clear HZ HC
 generalize (w.alloc (.cells #[.int .u16 0,.int .u16 0] 78)).drewN k=w1 at *
 go_wp2_with fail
 go_at_call 218
 refine (HL.out _).mono ?_
 rintro e w2 ⟨rfl,rfl⟩
 go_wp2_with fail
 go_at_call 218
 refine (HH.out _).mono ?_
 rintro e w3 ⟨rfl,rfl⟩
 have HZ2:=Lib.hid (HZ1.out.next (below_box w3 (.cells #[.int .u16 0,.int .u16 0] 78)))
 have c0:=HZ2.out.c0
 have c1:=HZ2.out.c1
 have f0:=HZ2.out.f 0
 have f1:=HZ2.out.f 1
 go_wp2_with fail
 have HY:=Lib.hid (HZ2.out.put (.int .u16 0) (.int .u16 0))
 have r0:=HY.out.c0
 have r1:=HY.out.c1
 exact bodyPost_ret (v:=spanV none) (by simp [results,Tryz.results162,go_sem,spanV,r0,r1]) rfl ⟨rfl,HY.out.bel⟩
set_option maxRecDepth 100000 in
set_option maxHeartbeats 1000000 in
theorem span_false_2 (l p q:List UInt8) (hl:l.length<=4096) (hne:l≠anyL) (w:World) (he:Ad.Env w) (hp:p.length<=4096) (hq:q.length<=4096) (hc:cut l [45]=(p,q,false)) (a:Nat) (h1:portN p=some a) (h2:portN p=none) :
  Calls Tryz.prog 162 #[.string ⟨l.toArray⟩] w fun e w'=>e = .returned (spanV none)/\Below w.heap.size w w':=by
 have ht:(l == [97,110,121])=false:=by simpa [anyL] using hne
 have HZ:=Lib.hid (SAt.box (.int .u16 0) (.int .u16 0) (Below.refl w.heap.size w))
 have HC:=Lib.hid (cut_dash l hl (w.alloc (.cells #[.int .u16 0,.int .u16 0] 78)) (he.alloc _))
 rw [hc] at HC
 have HL:=Lib.hid (fun W=>port_any p W (by omega))
 rw [h1,portV_some] at HL
 have HH:=Lib.hid (fun W=>port_any p W (by omega))
 rw [h2,portV_none] at HH
 clear hl hne he hp hq hc h1 h2
 go_enter Tryz.func162,Tryz.ntmps162
 go_wp2_with fail
 go_at_call 213
 refine HC.out.mono ?_
 rintro e w1 ⟨rfl,k,rfl⟩
 have HZ1:=Lib.hid (HZ.out.next (below_drewN _ k))
 clear HZ HC
 generalize (w.alloc (.cells #[.int .u16 0,.int .u16 0] 78)).drewN k=w1 at *
 go_wp2_with fail
 go_at_call 218
 refine (HL.out _).mono ?_
 rintro e w2 ⟨rfl,rfl⟩
 go_wp2_with fail
 go_at_call 218
 refine (HH.out _).mono ?_
 rintro e w3 ⟨rfl,rfl⟩
 have HZ2:=Lib.hid (HZ1.out.next (below_box w3 (.cells #[.int .u16 (a:Int),.int .u16 0] 78)))
 have c0:=HZ2.out.c0
 have c1:=HZ2.out.c1
 have f0:=HZ2.out.f 0
 have f1:=HZ2.out.f 1
 go_wp2_with fail
 have HY:=Lib.hid (HZ2.out.put (.int .u16 0) (.int .u16 0))
 have r0:=HY.out.c0
 have r1:=HY.out.c1
 exact bodyPost_ret (v:=spanV none) (by simp [results,Tryz.results162,go_sem,spanV,r0,r1]) rfl ⟨rfl,HY.out.bel⟩
set_option maxRecDepth 100000 in
set_option maxHeartbeats 1000000 in
theorem span_false_3 (l p q:List UInt8) (hl:l.length<=4096) (hne:l≠anyL) (w:World) (he:Ad.Env w) (hp:p.length<=4096) (hq:q.length<=4096) (hc:cut l [45]=(p,q,false)) (a b:Nat) (h1:portN p=some a) (h2:portN p=some b) (h3 : ¬ a<=b) :
  Calls Tryz.prog 162 #[.string ⟨l.toArray⟩] w fun e w'=>e = .returned (spanV none)/\Below w.heap.size w w':=by
 have ht:(l == [97,110,121])=false:=by simpa [anyL] using hne
 have HZ:=Lib.hid (SAt.box (.int .u16 0) (.int .u16 0) (Below.refl w.heap.size w))
 have HC:=Lib.hid (cut_dash l hl (w.alloc (.cells #[.int .u16 0,.int .u16 0] 78)) (he.alloc _))
 rw [hc] at HC
 have HL:=Lib.hid (fun W=>port_any p W (by omega))
 rw [h1,portV_some] at HL
 have HH:=Lib.hid (fun W=>port_any p W (by omega))
 rw [h2,portV_some] at HH
 have b1:a<=65535:=(RulM.portN_some.1 h1).2
 have b2:b<=65535:=(RulM.portN_some.1 h2).2
 have HS:=Lib.hid (fun W=>isSpan_any a b W)
 rw [decide_eq_false h3] at HS
 clear hl hne he hp hq hc h1 h2 h3
 go_enter Tryz.func162,Tryz.ntmps162
 go_wp2_with fail
 go_at_call 213
 refine HC.out.mono ?_
 rintro e w1 ⟨rfl,k,rfl⟩
 have HZ1:=Lib.hid (HZ.out.next (below_drewN _ k))
 clear HZ HC
 generalize (w.alloc (.cells #[.int .u16 0,.int .u16 0] 78)).drewN k=w1 at *
 go_wp2_with fail
 go_at_call 218
 refine (HL.out _).mono ?_
 rintro e w2 ⟨rfl,rfl⟩
 go_wp2_with fail
 go_at_call 218
 refine (HH.out _).mono ?_
 rintro e w3 ⟨rfl,rfl⟩
 have HX:=Lib.hid (SAt.box (.int .u16 (a:Int)) (.int .u16 (b:Int)) HZ1.out.bel)
 have HZ2:=Lib.hid (HZ1.out.next (below_box w3 (.cells #[.int .u16 (a:Int),.int .u16 (b:Int)] 78)))
 go_wp2_with fail
 go_at_call 131
 refine (HS.out _).mono ?_
 rintro e w4 ⟨rfl,hb⟩
 have HZ3:=Lib.hid (HZ2.out.next hb)
 have HX3:=Lib.hid (HX.out.next hb)
 clear hb HZ2 HX
 have c0:=HZ3.out.c0
 have c1:=HZ3.out.c1
 have f0:=HZ3.out.f 0
 have f1:=HZ3.out.f 1
 go_wp2_with fail
 have HY:=Lib.hid (HZ3.out.put (.int .u16 0) (.int .u16 0))
 have r0:=HY.out.c0
 have r1:=HY.out.c1
 exact bodyPost_ret (v:=spanV none) (by simp [results,Tryz.results162,go_sem,spanV,r0,r1]) rfl ⟨rfl,HY.out.bel⟩
set_option maxRecDepth 100000 in
set_option maxHeartbeats 1000000 in
theorem span_false_4 (l p q:List UInt8) (hl:l.length<=4096) (hne:l≠anyL) (w:World) (he:Ad.Env w) (hp:p.length<=4096) (hq:q.length<=4096) (hc:cut l [45]=(p,q,false)) (a b:Nat) (h1:portN p=some a) (h2:portN p=some b) (h3:a<=b) (h4:spanS a b≠l) :
  Calls Tryz.prog 162 #[.string ⟨l.toArray⟩] w fun e w'=>e = .returned (spanV none)/\Below w.heap.size w w':=by
 have ht:(l == [97,110,121])=false:=by simpa [anyL] using hne
 have HZ:=Lib.hid (SAt.box (.int .u16 0) (.int .u16 0) (Below.refl w.heap.size w))
 have HC:=Lib.hid (cut_dash l hl (w.alloc (.cells #[.int .u16 0,.int .u16 0] 78)) (he.alloc _))
 rw [hc] at HC
 have HL:=Lib.hid (fun W=>port_any p W (by omega))
 rw [h1,portV_some] at HL
 have HH:=Lib.hid (fun W=>port_any p W (by omega))
 rw [h2,portV_some] at HH
 have b1:a<=65535:=(RulM.portN_some.1 h1).2
 have b2:b<=65535:=(RulM.portN_some.1 h2).2
 have HS:=Lib.hid (fun W=>isSpan_any a b W)
 rw [decide_eq_true h3] at HS
 have HW:=Lib.hid (fun W (h:Below w.heap.size w W)=>showSpan_any a b (by omega) (by omega) W (he.below h))
 have hq2:(spanS a b == l)=false:=by rw [beq_eq_false_iff_ne];exact h4
 clear h4
 clear hl hne he hp hq hc h1 h2 h3
 go_enter Tryz.func162,Tryz.ntmps162
 go_wp2_with fail
 go_at_call 213
 refine HC.out.mono ?_
 rintro e w1 ⟨rfl,k,rfl⟩
 have HZ1:=Lib.hid (HZ.out.next (below_drewN _ k))
 clear HZ HC
 generalize (w.alloc (.cells #[.int .u16 0,.int .u16 0] 78)).drewN k=w1 at *
 go_wp2_with fail
 go_at_call 218
 refine (HL.out _).mono ?_
 rintro e w2 ⟨rfl,rfl⟩
 go_wp2_with fail
 go_at_call 218
 refine (HH.out _).mono ?_
 rintro e w3 ⟨rfl,rfl⟩
 have HX:=Lib.hid (SAt.box (.int .u16 (a:Int)) (.int .u16 (b:Int)) HZ1.out.bel)
 have HZ2:=Lib.hid (HZ1.out.next (below_box w3 (.cells #[.int .u16 (a:Int),.int .u16 (b:Int)] 78)))
 go_wp2_with fail
 go_at_call 131
 refine (HS.out _).mono ?_
 rintro e w4 ⟨rfl,hb⟩
 have HZ3:=Lib.hid (HZ2.out.next hb)
 have HX3:=Lib.hid (HX.out.next hb)
 clear hb HZ2 HX
 have g0:=HX3.out.c0
 have g1:=HX3.out.c1
 go_wp2_with fail
 go_at_call 219
 refine (HW.out _ HZ3.out.bel).mono ?_
 rintro e w5 ⟨rfl,hb⟩
 have HZ4:=Lib.hid (HZ3.out.next hb)
 have HX4:=Lib.hid (HX3.out.next hb)
 clear hb HZ3 HX3 g0 g1
 have c0:=HZ4.out.c0
 have c1:=HZ4.out.c1
 have f0:=HZ4.out.f 0
 have f1:=HZ4.out.f 1
 go_wp2_with fail
 have HY:=Lib.hid (HZ4.out.put (.int .u16 0) (.int .u16 0))
 have r0:=HY.out.c0
 have r1:=HY.out.c1
 exact bodyPost_ret (v:=spanV none) (by simp [results,Tryz.results162,go_sem,spanV,r0,r1]) rfl ⟨rfl,HY.out.bel⟩
set_option maxRecDepth 100000 in
set_option maxHeartbeats 1000000 in
theorem span_false_5 (l p q:List UInt8) (hl:l.length<=4096) (hne:l≠anyL) (w:World) (he:Ad.Env w) (hp:p.length<=4096) (hq:q.length<=4096) (hc:cut l [45]=(p,q,false)) (a b:Nat) (h1:portN p=some a) (h2:portN p=some b) (h3:a<=b) (h4:spanS a b=l) :
  Calls Tryz.prog 162 #[.string ⟨l.toArray⟩] w fun e w'=>e = .returned (spanV (some (a,b)))/\Below w.heap.size w w':=by
 have ht:(l == [97,110,121])=false:=by simpa [anyL] using hne
 have HZ:=Lib.hid (SAt.box (.int .u16 0) (.int .u16 0) (Below.refl w.heap.size w))
 have HC:=Lib.hid (cut_dash l hl (w.alloc (.cells #[.int .u16 0,.int .u16 0] 78)) (he.alloc _))
 rw [hc] at HC
 have HL:=Lib.hid (fun W=>port_any p W (by omega))
 rw [h1,portV_some] at HL
 have HH:=Lib.hid (fun W=>port_any p W (by omega))
 rw [h2,portV_some] at HH
 have b1:a<=65535:=(RulM.portN_some.1 h1).2
 have b2:b<=65535:=(RulM.portN_some.1 h2).2
 have HS:=Lib.hid (fun W=>isSpan_any a b W)
 rw [decide_eq_true h3] at HS
 have HW:=Lib.hid (fun W (h:Below w.heap.size w W)=>showSpan_any a b (by omega) (by omega) W (he.below h))
 have hq2:(spanS a b == l)=true:=by rw [beq_iff_eq];exact h4
 clear h4
 clear hl hne he hp hq hc h1 h2 h3
 go_enter Tryz.func162,Tryz.ntmps162
 go_wp2_with fail
 go_at_call 213
 refine HC.out.mono ?_
 rintro e w1 ⟨rfl,k,rfl⟩
 have HZ1:=Lib.hid (HZ.out.next (below_drewN _ k))
 clear HZ HC
 generalize (w.alloc (.cells #[.int .u16 0,.int .u16 0] 78)).drewN k=w1 at *
 go_wp2_with fail
 go_at_call 218
 refine (HL.out _).mono ?_
 rintro e w2 ⟨rfl,rfl⟩
 go_wp2_with fail
 go_at_call 218
 refine (HH.out _).mono ?_
 rintro e w3 ⟨rfl,rfl⟩
 have HX:=Lib.hid (SAt.box (.int .u16 (a:Int)) (.int .u16 (b:Int)) HZ1.out.bel)
 have HZ2:=Lib.hid (HZ1.out.next (below_box w3 (.cells #[.int .u16 (a:Int),.int .u16 (b:Int)] 78)))
 go_wp2_with fail
 go_at_call 131
 refine (HS.out _).mono ?_
 rintro e w4 ⟨rfl,hb⟩
 have HZ3:=Lib.hid (HZ2.out.next hb)
 have HX3:=Lib.hid (HX.out.next hb)
 clear hb HZ2 HX
 have g0:=HX3.out.c0
 have g1:=HX3.out.c1
 go_wp2_with fail
 go_at_call 219
 refine (HW.out _ HZ3.out.bel).mono ?_
 rintro e w5 ⟨rfl,hb⟩
 have HZ4:=Lib.hid (HZ3.out.next hb)
 have HX4:=Lib.hid (HX3.out.next hb)
 clear hb HZ3 HX3 g0 g1
 have g0:=HX4.out.c0
 have g1:=HX4.out.c1
 have c0:=HZ4.out.c0
 have c1:=HZ4.out.c1
 have f0:=HZ4.out.f 0
 have f1:=HZ4.out.f 1
 go_wp2_with fail
 have HY:=Lib.hid (HZ4.out.put (.int .u16 (a:Int)) (.int .u16 (b:Int)))
 have r0:=HY.out.c0
 have r1:=HY.out.c1
 exact bodyPost_ret (v:=spanV (some (a,b))) (by simp [results,Tryz.results162,go_sem,spanV,r0,r1]) rfl ⟨rfl,HY.out.bel⟩
theorem spanP_none {l:List UInt8} (hne:l≠anyL) (h:∀ a b,portN (lowS l)=some a->portN (highS l)=some b->a<=b->spanS a b=l->False):spanP l=none:=by
 cases hs:spanP l with
 | none=>rfl
 | some x =>
  exfalso
  obtain ⟨a,b⟩:=x
  unfold RulM.spanP at hs
  rw [if_neg hne] at hs
  split at hs
  ·rename_i a' b' h1 h2
   split at hs
   ·rename_i hh;exact h a' b' h1 h2 hh.1 hh.2
   ·cases hs
  ·cases hs
theorem spanP_yes {l:List UInt8} {a b:Nat} (h1:portN (lowS l)=some a) (h2:portN (highS l)=some b) (h3:a<=b) (h4:spanS a b=l):spanP l=some (a,b) :=
 RulM.spanP_some.2 ⟨h3,(RulM.portN_some.1 h2).2,h4⟩
theorem parseSpan_any (l:List UInt8) (hl:l.length<=4096) (w:World) (he:Ad.Env w) :
  Calls Tryz.prog 162 #[.string ⟨l.toArray⟩] w fun e w'=>e = .returned (spanV (spanP l))/\Below w.heap.size w w':=by
 by_cases hne:l=anyL
 ·subst hne
  rw [RulM.spanP_any]
  exact span_parse_any w
 ·obtain ⟨p,q,t,hc⟩:∃ p q t,cut l [45]=(p,q,t):=⟨_,_,_,rfl⟩
  have hn:=cut_len 45 l
  rw [hc] at hn
  have hlo:lowS l=p:=by unfold RulM.lowS;rw [hc]
  have hhi:highS l=if t=true then q else p:=by unfold RulM.highS;rw [hc]
  have hp:p.length<=4096:=Nat.le_trans hn.1 hl
  have hq:q.length<=4096:=Nat.le_trans hn.2 hl
  cases t with
  | true =>
   have hh:highS l=q:=hhi
   cases h1:portN p with
   | none=>rw [spanP_none hne (fun a b e1 _ _ _=>by rw [hlo,h1] at e1;cases e1)];exact span_true_1 l p q hl hne w he hp hq hc h1
   | some a =>
    cases h2:portN q with
    | none=>rw [spanP_none hne (fun a b _ e2 _ _=>by rw [hh,h2] at e2;cases e2)];exact span_true_2 l p q hl hne w he hp hq hc a h1 h2
    | some b =>
     by_cases h3:a<=b
     ·by_cases h4:spanS a b=l
      ·rw [spanP_yes (by rw [hlo];exact h1) (by rw [hh];exact h2) h3 h4];exact span_true_5 l p q hl hne w he hp hq hc a b h1 h2 h3 h4
      ·rw [spanP_none hne (fun a' b' e1 e2 _ e4=>by rw [hlo,h1] at e1;rw [hh,h2] at e2;cases e1;cases e2;exact h4 e4)];exact span_true_4 l p q hl hne w he hp hq hc a b h1 h2 h3 h4
     ·rw [spanP_none hne (fun a' b' e1 e2 e3 _=>by rw [hlo,h1] at e1;rw [hh,h2] at e2;cases e1;cases e2;exact h3 e3)];exact span_true_3 l p q hl hne w he hp hq hc a b h1 h2 h3
  | false =>
   have hh:highS l=p:=hhi
   cases h1:portN p with
   | none=>rw [spanP_none hne (fun a b e1 _ _ _=>by rw [hlo,h1] at e1;cases e1)];exact span_false_1 l p q hl hne w he hp hq hc h1
   | some a =>
    cases h2:portN p with
    | none=>rw [spanP_none hne (fun a b _ e2 _ _=>by rw [hh,h2] at e2;cases e2)];exact span_false_2 l p q hl hne w he hp hq hc a h1 h2
    | some b =>
     by_cases h3:a<=b
     ·by_cases h4:spanS a b=l
      ·rw [spanP_yes (by rw [hlo];exact h1) (by rw [hh];exact h2) h3 h4];exact span_false_5 l p q hl hne w he hp hq hc a b h1 h2 h3 h4
      ·rw [spanP_none hne (fun a' b' e1 e2 _ e4=>by rw [hlo,h1] at e1;rw [hh,h2] at e2;cases e1;cases e2;exact h4 e4)];exact span_false_4 l p q hl hne w he hp hq hc a b h1 h2 h3 h4
     ·rw [spanP_none hne (fun a' b' e1 e2 e3 _=>by rw [hlo,h1] at e1;rw [hh,h2] at e2;cases e1;cases e2;exact h3 e3)];exact span_false_3 l p q hl hne w he hp hq hc a b h1 h2 h3
end Ru
end Go.Proofs.YtcockldefmmhbaaGreatDoor
