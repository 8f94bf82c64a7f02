/- Several texts of this proof in one file, each in its own namespace. -/
import Derived.Test.YtcockldefmmhbaaGreatDoorJ10
import Derived.Test.YtcockldefmmhbaaGreatDoorMatH
import Derived.Test.YtcockldefmmhbaaGreatDoorRulO
import Derived.Maps.AppendAt
set_option linter.unusedVariables false
set_option linter.unusedSimpArgs false
namespace Go.Proofs.YtcockldefmmhbaaGreatDoor
open Go.ChangeShapes Go.WideShapes Go.ChangeAt Go.RowKit Go.Mtl Go.Lib
namespace Ma
open RulM (R)
open MatM (K hitB protoB protoB_any protoB_is inB)
open AdrM (hasS)
abbrev rK (r:R):Array Value:=#[.bool r.acc,.int .u8 (r.pr:Int),.int .u32 (r.sa:Int),.int .i64 r.sb,.int .u32 (r.da:Int),.int .i64 r.db,.int .u16 (r.sl:Int),.int .u16 (r.sh:Int),.int .u16 (r.dl:Int),.int .u16 (r.dh:Int)]
abbrev pK (k:K):Array Value:=#[.int .u8 (k.pr:Int),.int .u32 (k.sr:Int),.int .u32 (k.ds:Int),.int .u16 (k.sp:Int),.int .u16 (k.dp:Int),.int .u8 (k.fl:Int),.int .u8 (k.kd:Int)]
theorem below_box (w:World) (o:Obj):Below w.heap.size w (w.alloc o):=(Below.refl _ w).alloc (Nat.le_refl _) o
theorem below_then {w w1 w2:World} (h:Below w.heap.size w w1) (h2:Below w1.heap.size w1 w2):Below w.heap.size w w2:=h.trans (h2.mono h.size)
structure KAt (w:World) (h:Nat) (k:K) (W:World):Prop where
 blk:Blk W h (pK k) 95
 bel:Below w.heap.size w W
theorem KAt.next {w W W':World} {h:Nat} {k:K} (H:KAt w h k W) (hb:Below W.heap.size W W'):KAt w h k W':=⟨H.blk.next hb,below_then H.bel hb⟩
theorem KAt.box (w:World) (k:K):KAt w w.heap.size k (w.alloc (.cells (pK k) 95)):=⟨Blk.box _ _ _,below_box _ _⟩
theorem KAt.cells {w W:World} {h:Nat} {k:K} (H:KAt w h k W):W.cell? ⟨h,0,none⟩=some (.int .u8 (k.pr:Int))/\W.cell? ⟨h,1,none⟩=some (.int .u32 (k.sr:Int))/\W.cell? ⟨h,2,none⟩=some (.int .u32 (k.ds:Int))/\W.cell? ⟨h,3,none⟩=some (.int .u16 (k.sp:Int)) ∧
  W.cell? ⟨h,4,none⟩=some (.int .u16 (k.dp:Int))/\W.cell? ⟨h,5,none⟩=some (.int .u8 (k.fl:Int))/\W.cell? ⟨h,6,none⟩=some (.int .u8 (k.kd:Int)) :=
 ⟨H.blk.cell 0 _ rfl,H.blk.cell 1 _ rfl,H.blk.cell 2 _ rfl,H.blk.cell 3 _ rfl,H.blk.cell 4 _ rfl,H.blk.cell 5 _ rfl,H.blk.cell 6 _ rfl⟩
structure RAt (w:World) (g:Nat) (r:R) (W:World):Prop where
 blk:Blk W g (rK r) 80
 bel:Below w.heap.size w W
theorem RAt.next {w W W':World} {g:Nat} {r:R} (H:RAt w g r W) (hb:Below W.heap.size W W'):RAt w g r W':=⟨H.blk.next hb,below_then H.bel hb⟩
theorem RAt.box (w:World) (r:R):RAt w w.heap.size r (w.alloc (.cells (rK r) 80)):=⟨Blk.box _ _ _,below_box _ _⟩
theorem RAt.cells {w W:World} {g:Nat} {r:R} (H:RAt w g r W):W.cell? ⟨g,0,none⟩=some (.bool r.acc)/\W.cell? ⟨g,1,none⟩=some (.int .u8 (r.pr:Int))/\W.cell? ⟨g,2,none⟩=some (.int .u32 (r.sa:Int))/\W.cell? ⟨g,3,none⟩=some (.int .i64 r.sb)/\W.cell? ⟨g,4,none⟩=some (.int .u32 (r.da:Int))/\W.cell? ⟨g,5,none⟩=some (.int .i64 r.db) ∧
  W.cell? ⟨g,6,none⟩=some (.int .u16 (r.sl:Int))/\W.cell? ⟨g,7,none⟩=some (.int .u16 (r.sh:Int))/\W.cell? ⟨g,8,none⟩=some (.int .u16 (r.dl:Int))/\W.cell? ⟨g,9,none⟩=some (.int .u16 (r.dh:Int)) :=
 ⟨H.blk.cell 0 _ rfl,H.blk.cell 1 _ rfl,H.blk.cell 2 _ rfl,H.blk.cell 3 _ rfl,H.blk.cell 4 _ rfl,H.blk.cell 5 _ rfl,H.blk.cell 6 _ rfl,H.blk.cell 7 _ rfl,H.blk.cell 8 _ rfl,H.blk.cell 9 _ rfl⟩
structure Two (w:World) (r:R) (k:K) (W:World):Prop where
 r:RAt w w.heap.size r W
 k:KAt w (w.heap.size+1) k W
theorem Two.box (w:World) (r:R) (k:K):Two w r k ((w.alloc (.cells (rK r) 80)).alloc (.cells (pK k) 95)) :=
 ⟨(RAt.box w r).next (below_box _ _),⟨Blk.box1 _ _ _ _,below_then (below_box _ _) (below_box _ _)⟩⟩
theorem Two.next {w W W':World} {r:R} {k:K} (H:Two w r k W) (hb:Below W.heap.size W W'):Two w r k W':=⟨H.r.next hb,H.k.next hb⟩
theorem contains_any (a b x:Nat) (w:World) :
  Calls Tryz.prog 279 #[.agg #[.int .u16 (a:Int),.int .u16 (b:Int)],.int .u16 (x:Int)] w fun e w'=>e = .returned (.bool (inB a b x))/\Below w.heap.size w w':=by
 have HB:=Lib.hid (below_box w (.cells #[.int .u16 (a:Int),.int .u16 (b:Int)] 78))
 obtain ⟨p,hp⟩:∃ p,decide (a<=x)=p:=⟨_,rfl⟩
 obtain ⟨q,hq⟩:∃ q,decide (x<=b)=q:=⟨_,rfl⟩
 have HR:Hid (inB a b x=(p && q)):=by show _=_;unfold inB;rw [hp,hq]
 cases p
 ·go_enter Tryz.func279,Tryz.ntmps279
  go_wp2_with fail
  go_ret
  exact ⟨ret_bool (by rw [HR.out];rfl),HB.out⟩
 ·go_enter Tryz.func279,Tryz.ntmps279
  go_wp2_with fail
  go_ret
  exact ⟨ret_bool (by rw [HR.out];rfl),HB.out⟩
set_option maxRecDepth 100000 in
set_option maxHeartbeats 1000000 in
theorem matches_0 (r:R) (k:K) (ho:r.Ok) (hk:k.Ok) (w:World) (hp:r.pr=0) (b2 b4:Bool) (h1:hasS r.sa r.sb k.sr=true) (h2:hasS r.da r.db k.ds=b2) (h3:inB r.sl r.sh k.sp=true) (h4:inB r.dl r.dh k.dp=b4) :
  Calls Tryz.prog 251 #[.agg #[.bool r.acc,.int .u8 (r.pr:Int),.int .u32 (r.sa:Int),.int .i64 r.sb,.int .u32 (r.da:Int),.int .i64 r.db,.int .u16 (r.sl:Int),.int .u16 (r.sh:Int),.int .u16 (r.dl:Int),.int .u16 (r.dh:Int)],.agg #[.int .u8 (k.pr:Int),.int .u32 (k.sr:Int),.int .u32 (k.ds:Int),.int .u16 (k.sp:Int),.int .u16 (k.dp:Int),.int .u8 (k.fl:Int),.int .u8 (k.kd:Int)]] w fun e w'=>e = .returned (.bool (hitB r k))/\Below w.heap.size w w':=by
 have HR:Hid (hitB r k=(true && ((true && b2) && (true && b4)))):=by
  show _=_;unfold hitB;rw [h1,h2,h3,h4,protoB_any hp]
 have H1:=Lib.hid (fun W=>has_any r.sa k.sr r.sb ho.sa hk.sr W)
 have H2:=Lib.hid (fun W=>has_any r.da k.ds r.db ho.da hk.ds W)
 have H3:=Lib.hid (fun W=>contains_any r.sl r.sh k.sp W)
 have H4:=Lib.hid (fun W=>contains_any r.dl r.dh k.dp W)
 rw [h1] at H1;rw [h2] at H2;rw [h3] at H3;rw [h4] at H4
 have d0:((r.pr:Int) == 0)=true:=by rw [hp];rfl
 have HK:=Lib.hid (Two.box w r k)
 clear ho hk h1 h2 h3 h4 hp
 obtain ⟨x0,x1,x2,x3,x4,x5,x6,x7,x8,x9⟩:=HK.out.r.cells
 obtain ⟨y0,y1,y2,y3,y4,y5,y6⟩:=HK.out.k.cells
 go_enter Tryz.func251,Tryz.ntmps251
 go_wp2_with fail
 go_at_call 278
 refine (H1.out _).mono ?_
 rintro e w1 ⟨rfl,hb⟩
 have HK':=Lib.hid (HK.out.next hb)
 clear hb x0 x1 x2 x3 x4 x5 x6 x7 x8 x9 y0 y1 y2 y3 y4 y5 y6 HK H1
 have HK:=HK'
 clear HK'
 obtain ⟨x0,x1,x2,x3,x4,x5,x6,x7,x8,x9⟩:=HK.out.r.cells
 obtain ⟨y0,y1,y2,y3,y4,y5,y6⟩:=HK.out.k.cells
 go_wp2_with fail
 go_at_call 278
 refine (H2.out _).mono ?_
 rintro e w2 ⟨rfl,hb⟩
 have HK':=Lib.hid (HK.out.next hb)
 clear hb x0 x1 x2 x3 x4 x5 x6 x7 x8 x9 y0 y1 y2 y3 y4 y5 y6 HK H2
 have HK:=HK'
 clear HK'
 obtain ⟨x0,x1,x2,x3,x4,x5,x6,x7,x8,x9⟩:=HK.out.r.cells
 obtain ⟨y0,y1,y2,y3,y4,y5,y6⟩:=HK.out.k.cells
 go_wp2_with fail
 go_at_call 279
 refine (H3.out _).mono ?_
 rintro e w3 ⟨rfl,hb⟩
 have HK':=Lib.hid (HK.out.next hb)
 clear hb x0 x1 x2 x3 x4 x5 x6 x7 x8 x9 y0 y1 y2 y3 y4 y5 y6 HK H3
 have HK:=HK'
 clear HK'
 obtain ⟨x0,x1,x2,x3,x4,x5,x6,x7,x8,x9⟩:=HK.out.r.cells
 obtain ⟨y0,y1,y2,y3,y4,y5,y6⟩:=HK.out.k.cells
 go_wp2_with fail
 go_at_call 279
 refine (H4.out _).mono ?_
 rintro e w4 ⟨rfl,hb⟩
 have HK':=Lib.hid (HK.out.next hb)
 clear hb x0 x1 x2 x3 x4 x5 x6 x7 x8 x9 y0 y1 y2 y3 y4 y5 y6 HK H4
 have HK:=HK'
 clear HK'
 obtain ⟨x0,x1,x2,x3,x4,x5,x6,x7,x8,x9⟩:=HK.out.r.cells
 obtain ⟨y0,y1,y2,y3,y4,y5,y6⟩:=HK.out.k.cells
 cases b2 <;> cases b4 <;> (go_wp2_with fail;go_ret;exact ⟨ret_bool (by rw [HR.out];rfl),HK.out.r.bel⟩)
set_option maxRecDepth 100000 in
set_option maxHeartbeats 1000000 in
theorem matches_1 (r:R) (k:K) (ho:r.Ok) (hk:k.Ok) (w:World) (hp:r.pr=0) (b2 b4:Bool) (h1:hasS r.sa r.sb k.sr=true) (h2:hasS r.da r.db k.ds=b2) (h3:inB r.sl r.sh k.sp=false) (h4:inB r.dl r.dh k.dp=b4) :
  Calls Tryz.prog 251 #[.agg #[.bool r.acc,.int .u8 (r.pr:Int),.int .u32 (r.sa:Int),.int .i64 r.sb,.int .u32 (r.da:Int),.int .i64 r.db,.int .u16 (r.sl:Int),.int .u16 (r.sh:Int),.int .u16 (r.dl:Int),.int .u16 (r.dh:Int)],.agg #[.int .u8 (k.pr:Int),.int .u32 (k.sr:Int),.int .u32 (k.ds:Int),.int .u16 (k.sp:Int),.int .u16 (k.dp:Int),.int .u8 (k.fl:Int),.int .u8 (k.kd:Int)]] w fun e w'=>e = .returned (.bool (hitB r k))/\Below w.heap.size w w':=by
 have HR:Hid (hitB r k=(true && ((true && b2) && (false && b4)))):=by
  show _=_;unfold hitB;rw [h1,h2,h3,h4,protoB_any hp]
 have H1:=Lib.hid (fun W=>has_any r.sa k.sr r.sb ho.sa hk.sr W)
 have H2:=Lib.hid (fun W=>has_any r.da k.ds r.db ho.da hk.ds W)
 have H3:=Lib.hid (fun W=>contains_any r.sl r.sh k.sp W)
 have H4:=Lib.hid (fun W=>contains_any r.dl r.dh k.dp W)
 rw [h1] at H1;rw [h2] at H2;rw [h3] at H3;rw [h4] at H4
 have d0:((r.pr:Int) == 0)=true:=by rw [hp];rfl
 have HK:=Lib.hid (Two.box w r k)
 clear ho hk h1 h2 h3 h4 hp
 obtain ⟨x0,x1,x2,x3,x4,x5,x6,x7,x8,x9⟩:=HK.out.r.cells
 obtain ⟨y0,y1,y2,y3,y4,y5,y6⟩:=HK.out.k.cells
 go_enter Tryz.func251,Tryz.ntmps251
 go_wp2_with fail
 go_at_call 278
 refine (H1.out _).mono ?_
 rintro e w1 ⟨rfl,hb⟩
 have HK':=Lib.hid (HK.out.next hb)
 clear hb x0 x1 x2 x3 x4 x5 x6 x7 x8 x9 y0 y1 y2 y3 y4 y5 y6 HK H1
 have HK:=HK'
 clear HK'
 obtain ⟨x0,x1,x2,x3,x4,x5,x6,x7,x8,x9⟩:=HK.out.r.cells
 obtain ⟨y0,y1,y2,y3,y4,y5,y6⟩:=HK.out.k.cells
 go_wp2_with fail
 go_at_call 278
 refine (H2.out _).mono ?_
 rintro e w2 ⟨rfl,hb⟩
 have HK':=Lib.hid (HK.out.next hb)
 clear hb x0 x1 x2 x3 x4 x5 x6 x7 x8 x9 y0 y1 y2 y3 y4 y5 y6 HK H2
 have HK:=HK'
 clear HK'
 obtain ⟨x0,x1,x2,x3,x4,x5,x6,x7,x8,x9⟩:=HK.out.r.cells
 obtain ⟨y0,y1,y2,y3,y4,y5,y6⟩:=HK.out.k.cells
 go_wp2_with fail
 go_at_call 279
 refine (H3.out _).mono ?_
 rintro e w3 ⟨rfl,hb⟩
 have HK':=Lib.hid (HK.out.next hb)
 clear hb x0 x1 x2 x3 x4 x5 x6 x7 x8 x9 y0 y1 y2 y3 y4 y5 y6 HK H3
 have HK:=HK'
 clear HK'
 obtain ⟨x0,x1,x2,x3,x4,x5,x6,x7,x8,x9⟩:=HK.out.r.cells
 obtain ⟨y0,y1,y2,y3,y4,y5,y6⟩:=HK.out.k.cells
 cases b2 <;> cases b4 <;> (go_wp2_with fail;go_ret;exact ⟨ret_bool (by rw [HR.out];rfl),HK.out.r.bel⟩)
set_option maxRecDepth 100000 in
set_option maxHeartbeats 1000000 in
theorem matches_2 (r:R) (k:K) (ho:r.Ok) (hk:k.Ok) (w:World) (hp:r.pr=0) (b2 b4:Bool) (h1:hasS r.sa r.sb k.sr=false) (h2:hasS r.da r.db k.ds=b2) (h3:inB r.sl r.sh k.sp=true) (h4:inB r.dl r.dh k.dp=b4) :
  Calls Tryz.prog 251 #[.agg #[.bool r.acc,.int .u8 (r.pr:Int),.int .u32 (r.sa:Int),.int .i64 r.sb,.int .u32 (r.da:Int),.int .i64 r.db,.int .u16 (r.sl:Int),.int .u16 (r.sh:Int),.int .u16 (r.dl:Int),.int .u16 (r.dh:Int)],.agg #[.int .u8 (k.pr:Int),.int .u32 (k.sr:Int),.int .u32 (k.ds:Int),.int .u16 (k.sp:Int),.int .u16 (k.dp:Int),.int .u8 (k.fl:Int),.int .u8 (k.kd:Int)]] w fun e w'=>e = .returned (.bool (hitB r k))/\Below w.heap.size w w':=by
 have HR:Hid (hitB r k=(true && ((false && b2) && (true && b4)))):=by
  show _=_;unfold hitB;rw [h1,h2,h3,h4,protoB_any hp]
 have H1:=Lib.hid (fun W=>has_any r.sa k.sr r.sb ho.sa hk.sr W)
 have H2:=Lib.hid (fun W=>has_any r.da k.ds r.db ho.da hk.ds W)
 have H3:=Lib.hid (fun W=>contains_any r.sl r.sh k.sp W)
 have H4:=Lib.hid (fun W=>contains_any r.dl r.dh k.dp W)
 rw [h1] at H1;rw [h2] at H2;rw [h3] at H3;rw [h4] at H4
 have d0:((r.pr:Int) == 0)=true:=by rw [hp];rfl
 have HK:=Lib.hid (Two.box w r k)
 clear ho hk h1 h2 h3 h4 hp
 obtain ⟨x0,x1,x2,x3,x4,x5,x6,x7,x8,x9⟩:=HK.out.r.cells
 obtain ⟨y0,y1,y2,y3,y4,y5,y6⟩:=HK.out.k.cells
 go_enter Tryz.func251,Tryz.ntmps251
 go_wp2_with fail
 go_at_call 278
 refine (H1.out _).mono ?_
 rintro e w1 ⟨rfl,hb⟩
 have HK':=Lib.hid (HK.out.next hb)
 clear hb x0 x1 x2 x3 x4 x5 x6 x7 x8 x9 y0 y1 y2 y3 y4 y5 y6 HK H1
 have HK:=HK'
 clear HK'
 obtain ⟨x0,x1,x2,x3,x4,x5,x6,x7,x8,x9⟩:=HK.out.r.cells
 obtain ⟨y0,y1,y2,y3,y4,y5,y6⟩:=HK.out.k.cells
 go_wp2_with fail
 go_at_call 279
 refine (H3.out _).mono ?_
 rintro e w3 ⟨rfl,hb⟩
 have HK':=Lib.hid (HK.out.next hb)
 clear hb x0 x1 x2 x3 x4 x5 x6 x7 x8 x9 y0 y1 y2 y3 y4 y5 y6 HK H3
 have HK:=HK'
 clear HK'
 obtain ⟨x0,x1,x2,x3,x4,x5,x6,x7,x8,x9⟩:=HK.out.r.cells
 obtain ⟨y0,y1,y2,y3,y4,y5,y6⟩:=HK.out.k.cells
 go_wp2_with fail
 go_at_call 279
 refine (H4.out _).mono ?_
 rintro e w4 ⟨rfl,hb⟩
 have HK':=Lib.hid (HK.out.next hb)
 clear hb x0 x1 x2 x3 x4 x5 x6 x7 x8 x9 y0 y1 y2 y3 y4 y5 y6 HK H4
 have HK:=HK'
 clear HK'
 obtain ⟨x0,x1,x2,x3,x4,x5,x6,x7,x8,x9⟩:=HK.out.r.cells
 obtain ⟨y0,y1,y2,y3,y4,y5,y6⟩:=HK.out.k.cells
 cases b2 <;> cases b4 <;> (go_wp2_with fail;go_ret;exact ⟨ret_bool (by rw [HR.out];rfl),HK.out.r.bel⟩)
set_option maxRecDepth 100000 in
set_option maxHeartbeats 1000000 in
theorem matches_3 (r:R) (k:K) (ho:r.Ok) (hk:k.Ok) (w:World) (hp:r.pr=0) (b2 b4:Bool) (h1:hasS r.sa r.sb k.sr=false) (h2:hasS r.da r.db k.ds=b2) (h3:inB r.sl r.sh k.sp=false) (h4:inB r.dl r.dh k.dp=b4) :
  Calls Tryz.prog 251 #[.agg #[.bool r.acc,.int .u8 (r.pr:Int),.int .u32 (r.sa:Int),.int .i64 r.sb,.int .u32 (r.da:Int),.int .i64 r.db,.int .u16 (r.sl:Int),.int .u16 (r.sh:Int),.int .u16 (r.dl:Int),.int .u16 (r.dh:Int)],.agg #[.int .u8 (k.pr:Int),.int .u32 (k.sr:Int),.int .u32 (k.ds:Int),.int .u16 (k.sp:Int),.int .u16 (k.dp:Int),.int .u8 (k.fl:Int),.int .u8 (k.kd:Int)]] w fun e w'=>e = .returned (.bool (hitB r k))/\Below w.heap.size w w':=by
 have HR:Hid (hitB r k=(true && ((false && b2) && (false && b4)))):=by
  show _=_;unfold hitB;rw [h1,h2,h3,h4,protoB_any hp]
 have H1:=Lib.hid (fun W=>has_any r.sa k.sr r.sb ho.sa hk.sr W)
 have H2:=Lib.hid (fun W=>has_any r.da k.ds r.db ho.da hk.ds W)
 have H3:=Lib.hid (fun W=>contains_any r.sl r.sh k.sp W)
 have H4:=Lib.hid (fun W=>contains_any r.dl r.dh k.dp W)
 rw [h1] at H1;rw [h2] at H2;rw [h3] at H3;rw [h4] at H4
 have d0:((r.pr:Int) == 0)=true:=by rw [hp];rfl
 have HK:=Lib.hid (Two.box w r k)
 clear ho hk h1 h2 h3 h4 hp
 obtain ⟨x0,x1,x2,x3,x4,x5,x6,x7,x8,x9⟩:=HK.out.r.cells
 obtain ⟨y0,y1,y2,y3,y4,y5,y6⟩:=HK.out.k.cells
 go_enter Tryz.func251,Tryz.ntmps251
 go_wp2_with fail
 go_at_call 278
 refine (H1.out _).mono ?_
 rintro e w1 ⟨rfl,hb⟩
 have HK':=Lib.hid (HK.out.next hb)
 clear hb x0 x1 x2 x3 x4 x5 x6 x7 x8 x9 y0 y1 y2 y3 y4 y5 y6 HK H1
 have HK:=HK'
 clear HK'
 obtain ⟨x0,x1,x2,x3,x4,x5,x6,x7,x8,x9⟩:=HK.out.r.cells
 obtain ⟨y0,y1,y2,y3,y4,y5,y6⟩:=HK.out.k.cells
 go_wp2_with fail
 go_at_call 279
 refine (H3.out _).mono ?_
 rintro e w3 ⟨rfl,hb⟩
 have HK':=Lib.hid (HK.out.next hb)
 clear hb x0 x1 x2 x3 x4 x5 x6 x7 x8 x9 y0 y1 y2 y3 y4 y5 y6 HK H3
 have HK:=HK'
 clear HK'
 obtain ⟨x0,x1,x2,x3,x4,x5,x6,x7,x8,x9⟩:=HK.out.r.cells
 obtain ⟨y0,y1,y2,y3,y4,y5,y6⟩:=HK.out.k.cells
 cases b2 <;> cases b4 <;> (go_wp2_with fail;go_ret;exact ⟨ret_bool (by rw [HR.out];rfl),HK.out.r.bel⟩)
set_option maxRecDepth 100000 in
set_option maxHeartbeats 1000000 in
theorem matches_4 (r:R) (k:K) (ho:r.Ok) (hk:k.Ok) (w:World) (hp:r.pr≠0) (hq:r.pr=k.pr) (b2 b4:Bool) (h1:hasS r.sa r.sb k.sr=true) (h2:hasS r.da r.db k.ds=b2) (h3:inB r.sl r.sh k.sp=true) (h4:inB r.dl r.dh k.dp=b4) :
  Calls Tryz.prog 251 #[.agg #[.bool r.acc,.int .u8 (r.pr:Int),.int .u32 (r.sa:Int),.int .i64 r.sb,.int .u32 (r.da:Int),.int .i64 r.db,.int .u16 (r.sl:Int),.int .u16 (r.sh:Int),.int .u16 (r.dl:Int),.int .u16 (r.dh:Int)],.agg #[.int .u8 (k.pr:Int),.int .u32 (k.sr:Int),.int .u32 (k.ds:Int),.int .u16 (k.sp:Int),.int .u16 (k.dp:Int),.int .u8 (k.fl:Int),.int .u8 (k.kd:Int)]] w fun e w'=>e = .returned (.bool (hitB r k))/\Below w.heap.size w w':=by
 have HR:Hid (hitB r k=(true && ((true && b2) && (true && b4)))):=by
  show _=_;unfold hitB;rw [h1,h2,h3,h4,protoB_is hp,decide_eq_true hq]
 have H1:=Lib.hid (fun W=>has_any r.sa k.sr r.sb ho.sa hk.sr W)
 have H2:=Lib.hid (fun W=>has_any r.da k.ds r.db ho.da hk.ds W)
 have H3:=Lib.hid (fun W=>contains_any r.sl r.sh k.sp W)
 have H4:=Lib.hid (fun W=>contains_any r.dl r.dh k.dp W)
 rw [h1] at H1;rw [h2] at H2;rw [h3] at H3;rw [h4] at H4
 have d0:((r.pr:Int) == 0)=false:=by rw [beq_eq_false_iff_ne];omega
 have d1:((r.pr:Int) == (k.pr:Int))=true:=by rw [hq];exact beq_self_eq_true _
 have HK:=Lib.hid (Two.box w r k)
 clear hq
 clear ho hk h1 h2 h3 h4 hp
 obtain ⟨x0,x1,x2,x3,x4,x5,x6,x7,x8,x9⟩:=HK.out.r.cells
 obtain ⟨y0,y1,y2,y3,y4,y5,y6⟩:=HK.out.k.cells
 go_enter Tryz.func251,Tryz.ntmps251
 go_wp2_with fail
 go_at_call 278
 refine (H1.out _).mono ?_
 rintro e w1 ⟨rfl,hb⟩
 have HK':=Lib.hid (HK.out.next hb)
 clear hb x0 x1 x2 x3 x4 x5 x6 x7 x8 x9 y0 y1 y2 y3 y4 y5 y6 HK H1
 have HK:=HK'
 clear HK'
 obtain ⟨x0,x1,x2,x3,x4,x5,x6,x7,x8,x9⟩:=HK.out.r.cells
 obtain ⟨y0,y1,y2,y3,y4,y5,y6⟩:=HK.out.k.cells
 go_wp2_with fail
 go_at_call 278
 refine (H2.out _).mono ?_
 rintro e w2 ⟨rfl,hb⟩
 have HK':=Lib.hid (HK.out.next hb)
 clear hb x0 x1 x2 x3 x4 x5 x6 x7 x8 x9 y0 y1 y2 y3 y4 y5 y6 HK H2
 have HK:=HK'
 clear HK'
 obtain ⟨x0,x1,x2,x3,x4,x5,x6,x7,x8,x9⟩:=HK.out.r.cells
 obtain ⟨y0,y1,y2,y3,y4,y5,y6⟩:=HK.out.k.cells
 go_wp2_with fail
 go_at_call 279
 refine (H3.out _).mono ?_
 rintro e w3 ⟨rfl,hb⟩
 have HK':=Lib.hid (HK.out.next hb)
 clear hb x0 x1 x2 x3 x4 x5 x6 x7 x8 x9 y0 y1 y2 y3 y4 y5 y6 HK H3
 have HK:=HK'
 clear HK'
 obtain ⟨x0,x1,x2,x3,x4,x5,x6,x7,x8,x9⟩:=HK.out.r.cells
 obtain ⟨y0,y1,y2,y3,y4,y5,y6⟩:=HK.out.k.cells
 go_wp2_with fail
 go_at_call 279
 refine (H4.out _).mono ?_
 rintro e w4 ⟨rfl,hb⟩
 have HK':=Lib.hid (HK.out.next hb)
 clear hb x0 x1 x2 x3 x4 x5 x6 x7 x8 x9 y0 y1 y2 y3 y4 y5 y6 HK H4
 have HK:=HK'
 clear HK'
 obtain ⟨x0,x1,x2,x3,x4,x5,x6,x7,x8,x9⟩:=HK.out.r.cells
 obtain ⟨y0,y1,y2,y3,y4,y5,y6⟩:=HK.out.k.cells
 cases b2 <;> cases b4 <;> (go_wp2_with fail;go_ret;exact ⟨ret_bool (by rw [HR.out];rfl),HK.out.r.bel⟩)
set_option maxRecDepth 100000 in
set_option maxHeartbeats 1000000 in
theorem matches_5 (r:R) (k:K) (ho:r.Ok) (hk:k.Ok) (w:World) (hp:r.pr≠0) (hq:r.pr=k.pr) (b2 b4:Bool) (h1:hasS r.sa r.sb k.sr=true) (h2:hasS r.da r.db k.ds=b2) (h3:inB r.sl r.sh k.sp=false) (h4:inB r.dl r.dh k.dp=b4) :
  Calls Tryz.prog 251 #[.agg #[.bool r.acc,.int .u8 (r.pr:Int),.int .u32 (r.sa:Int),.int .i64 r.sb,.int .u32 (r.da:Int),.int .i64 r.db,.int .u16 (r.sl:Int),.int .u16 (r.sh:Int),.int .u16 (r.dl:Int),.int .u16 (r.dh:Int)],.agg #[.int .u8 (k.pr:Int),.int .u32 (k.sr:Int),.int .u32 (k.ds:Int),.int .u16 (k.sp:Int),.int .u16 (k.dp:Int),.int .u8 (k.fl:Int),.int .u8 (k.kd:Int)]] w fun e w'=>e = .returned (.bool (hitB r k))/\Below w.heap.size w w':=by
 have HR:Hid (hitB r k=(true && ((true && b2) && (false && b4)))):=by
  show _=_;unfold hitB;rw [h1,h2,h3,h4,protoB_is hp,decide_eq_true hq]
 have H1:=Lib.hid (fun W=>has_any r.sa k.sr r.sb ho.sa hk.sr W)
 have H2:=Lib.hid (fun W=>has_any r.da k.ds r.db ho.da hk.ds W)
 have H3:=Lib.hid (fun W=>contains_any r.sl r.sh k.sp W)
 have H4:=Lib.hid (fun W=>contains_any r.dl r.dh k.dp W)
 rw [h1] at H1;rw [h2] at H2;rw [h3] at H3;rw [h4] at H4
 have d0:((r.pr:Int) == 0)=false:=by rw [beq_eq_false_iff_ne];omega
 have d1:((r.pr:Int) == (k.pr:Int))=true:=by rw [hq];exact beq_self_eq_true _
 have HK:=Lib.hid (Two.box w r k)
 clear hq
 clear ho hk h1 h2 h3 h4 hp
 obtain ⟨x0,x1,x2,x3,x4,x5,x6,x7,x8,x9⟩:=HK.out.r.cells
 obtain ⟨y0,y1,y2,y3,y4,y5,y6⟩:=HK.out.k.cells
 go_enter Tryz.func251,Tryz.ntmps251
 go_wp2_with fail
 go_at_call 278
 refine (H1.out _).mono ?_
 rintro e w1 ⟨rfl,hb⟩
 have HK':=Lib.hid (HK.out.next hb)
 clear hb x0 x1 x2 x3 x4 x5 x6 x7 x8 x9 y0 y1 y2 y3 y4 y5 y6 HK H1
 have HK:=HK'
 clear HK'
 obtain ⟨x0,x1,x2,x3,x4,x5,x6,x7,x8,x9⟩:=HK.out.r.cells
 obtain ⟨y0,y1,y2,y3,y4,y5,y6⟩:=HK.out.k.cells
 go_wp2_with fail
 go_at_call 278
 refine (H2.out _).mono ?_
 rintro e w2 ⟨rfl,hb⟩
 have HK':=Lib.hid (HK.out.next hb)
 clear hb x0 x1 x2 x3 x4 x5 x6 x7 x8 x9 y0 y1 y2 y3 y4 y5 y6 HK H2
 have HK:=HK'
 clear HK'
 obtain ⟨x0,x1,x2,x3,x4,x5,x6,x7,x8,x9⟩:=HK.out.r.cells
 obtain ⟨y0,y1,y2,y3,y4,y5,y6⟩:=HK.out.k.cells
 go_wp2_with fail
 go_at_call 279
 refine (H3.out _).mono ?_
 rintro e w3 ⟨rfl,hb⟩
 have HK':=Lib.hid (HK.out.next hb)
 clear hb x0 x1 x2 x3 x4 x5 x6 x7 x8 x9 y0 y1 y2 y3 y4 y5 y6 HK H3
 have HK:=HK'
 clear HK'
 obtain ⟨x0,x1,x2,x3,x4,x5,x6,x7,x8,x9⟩:=HK.out.r.cells
 obtain ⟨y0,y1,y2,y3,y4,y5,y6⟩:=HK.out.k.cells
 cases b2 <;> cases b4 <;> (go_wp2_with fail;go_ret;exact ⟨ret_bool (by rw [HR.out];rfl),HK.out.r.bel⟩)
set_option maxRecDepth 100000 in
set_option maxHeartbeats 1000000 in
theorem matches_6 (r:R) (k:K) (ho:r.Ok) (hk:k.Ok) (w:World) (hp:r.pr≠0) (hq:r.pr=k.pr) (b2 b4:Bool) (h1:hasS r.sa r.sb k.sr=false) (h2:hasS r.da r.db k.ds=b2) (h3:inB r.sl r.sh k.sp=true) (h4:inB r.dl r.dh k.dp=b4) :
  Calls Tryz.prog 251 #[.agg #[.bool r.acc,.int .u8 (r.pr:Int),.int .u32 (r.sa:Int),.int .i64 r.sb,.int .u32 (r.da:Int),.int .i64 r.db,.int .u16 (r.sl:Int),.int .u16 (r.sh:Int),.int .u16 (r.dl:Int),.int .u16 (r.dh:Int)],.agg #[.int .u8 (k.pr:Int),.int .u32 (k.sr:Int),.int .u32 (k.ds:Int),.int .u16 (k.sp:Int),.int .u16 (k.dp:Int),.int .u8 (k.fl:Int),.int .u8 (k.kd:Int)]] w fun e w'=>e = .returned (.bool (hitB r k))/\Below w.heap.size w w':=by
 have HR:Hid (hitB r k=(true && ((false && b2) && (true && b4)))):=by
  show _=_;unfold hitB;rw [h1,h2,h3,h4,protoB_is hp,decide_eq_true hq]
 have H1:=Lib.hid (fun W=>has_any r.sa k.sr r.sb ho.sa hk.sr W)
 have H2:=Lib.hid (fun W=>has_any r.da k.ds r.db ho.da hk.ds W)
 have H3:=Lib.hid (fun W=>contains_any r.sl r.sh k.sp W)
 have H4:=Lib.hid (fun W=>contains_any r.dl r.dh k.dp W)
 rw [h1] at H1;rw [h2] at H2;rw [h3] at H3;rw [h4] at H4
 have d0:((r.pr:Int) == 0)=false:=by rw [beq_eq_false_iff_ne];omega
 have d1:((r.pr:Int) == (k.pr:Int))=true:=by rw [hq];exact beq_self_eq_true _
 have HK:=Lib.hid (Two.box w r k)
 clear hq
 clear ho hk h1 h2 h3 h4 hp
 obtain ⟨x0,x1,x2,x3,x4,x5,x6,x7,x8,x9⟩:=HK.out.r.cells
 obtain ⟨y0,y1,y2,y3,y4,y5,y6⟩:=HK.out.k.cells
 go_enter Tryz.func251,Tryz.ntmps251
 go_wp2_with fail
 go_at_call 278
 refine (H1.out _).mono ?_
 rintro e w1 ⟨rfl,hb⟩
 have HK':=Lib.hid (HK.out.next hb)
 clear hb x0 x1 x2 x3 x4 x5 x6 x7 x8 x9 y0 y1 y2 y3 y4 y5 y6 HK H1
 have HK:=HK'
 clear HK'
 obtain ⟨x0,x1,x2,x3,x4,x5,x6,x7,x8,x9⟩:=HK.out.r.cells
 obtain ⟨y0,y1,y2,y3,y4,y5,y6⟩:=HK.out.k.cells
 go_wp2_with fail
 go_at_call 279
 refine (H3.out _).mono ?_
 rintro e w3 ⟨rfl,hb⟩
 have HK':=Lib.hid (HK.out.next hb)
 clear hb x0 x1 x2 x3 x4 x5 x6 x7 x8 x9 y0 y1 y2 y3 y4 y5 y6 HK H3
 have HK:=HK'
 clear HK'
 obtain ⟨x0,x1,x2,x3,x4,x5,x6,x7,x8,x9⟩:=HK.out.r.cells
 obtain ⟨y0,y1,y2,y3,y4,y5,y6⟩:=HK.out.k.cells
 go_wp2_with fail
 go_at_call 279
 refine (H4.out _).mono ?_
 rintro e w4 ⟨rfl,hb⟩
 have HK':=Lib.hid (HK.out.next hb)
 clear hb x0 x1 x2 x3 x4 x5 x6 x7 x8 x9 y0 y1 y2 y3 y4 y5 y6 HK H4
 have HK:=HK'
 clear HK'
 obtain ⟨x0,x1,x2,x3,x4,x5,x6,x7,x8,x9⟩:=HK.out.r.cells
 obtain ⟨y0,y1,y2,y3,y4,y5,y6⟩:=HK.out.k.cells
 cases b2 <;> cases b4 <;> (go_wp2_with fail;go_ret;exact ⟨ret_bool (by rw [HR.out];rfl),HK.out.r.bel⟩)
set_option maxRecDepth 100000 in
set_option maxHeartbeats 1000000 in
theorem matches_7 (r:R) (k:K) (ho:r.Ok) (hk:k.Ok) (w:World) (hp:r.pr≠0) (hq:r.pr=k.pr) (b2 b4:Bool) (h1:hasS r.sa r.sb k.sr=false) (h2:hasS r.da r.db k.ds=b2) (h3:inB r.sl r.sh k.sp=false) (h4:inB r.dl r.dh k.dp=b4) :
  Calls Tryz.prog 251 #[.agg #[.bool r.acc,.int .u8 (r.pr:Int),.int .u32 (r.sa:Int),.int .i64 r.sb,.int .u32 (r.da:Int),.int .i64 r.db,.int .u16 (r.sl:Int),.int .u16 (r.sh:Int),.int .u16 (r.dl:Int),.int .u16 (r.dh:Int)],.agg #[.int .u8 (k.pr:Int),.int .u32 (k.sr:Int),.int .u32 (k.ds:Int),.int .u16 (k.sp:Int),.int .u16 (k.dp:Int),.int .u8 (k.fl:Int),.int .u8 (k.kd:Int)]] w fun e w'=>e = .returned (.bool (hitB r k))/\Below w.heap.size w w':=by
 have HR:Hid (hitB r k=(true && ((false && b2) && (false && b4)))):=by
  show _=_;unfold hitB;rw [h1,h2,h3,h4,protoB_is hp,decide_eq_true hq]
 have H1:=Lib.hid (fun W=>has_any r.sa k.sr r.sb ho.sa hk.sr W)
 have H2:=Lib.hid (fun W=>has_any r.da k.ds r.db ho.da hk.ds W)
 have H3:=Lib.hid (fun W=>contains_any r.sl r.sh k.sp W)
 have H4:=Lib.hid (fun W=>contains_any r.dl r.dh k.dp W)
 rw [h1] at H1;rw [h2] at H2;rw [h3] at H3;rw [h4] at H4
 have d0:((r.pr:Int) == 0)=false:=by rw [beq_eq_false_iff_ne];omega
 have d1:((r.pr:Int) == (k.pr:Int))=true:=by rw [hq];exact beq_self_eq_true _
 have HK:=Lib.hid (Two.box w r k)
 clear hq
 clear ho hk h1 h2 h3 h4 hp
 obtain ⟨x0,x1,x2,x3,x4,x5,x6,x7,x8,x9⟩:=HK.out.r.cells
 obtain ⟨y0,y1,y2,y3,y4,y5,y6⟩:=HK.out.k.cells
 go_enter Tryz.func251,Tryz.ntmps251
 go_wp2_with fail
 go_at_call 278
 refine (H1.out _).mono ?_
 rintro e w1 ⟨rfl,hb⟩
 have HK':=Lib.hid (HK.out.next hb)
 clear hb x0 x1 x2 x3 x4 x5 x6 x7 x8 x9 y0 y1 y2 y3 y4 y5 y6 HK H1
 have HK:=HK'
 clear HK'
 obtain ⟨x0,x1,x2,x3,x4,x5,x6,x7,x8,x9⟩:=HK.out.r.cells
 obtain ⟨y0,y1,y2,y3,y4,y5,y6⟩:=HK.out.k.cells
 go_wp2_with fail
 go_at_call 279
 refine (H3.out _).mono ?_
 rintro e w3 ⟨rfl,hb⟩
 have HK':=Lib.hid (HK.out.next hb)
 clear hb x0 x1 x2 x3 x4 x5 x6 x7 x8 x9 y0 y1 y2 y3 y4 y5 y6 HK H3
 have HK:=HK'
 clear HK'
 obtain ⟨x0,x1,x2,x3,x4,x5,x6,x7,x8,x9⟩:=HK.out.r.cells
 obtain ⟨y0,y1,y2,y3,y4,y5,y6⟩:=HK.out.k.cells
 cases b2 <;> cases b4 <;> (go_wp2_with fail;go_ret;exact ⟨ret_bool (by rw [HR.out];rfl),HK.out.r.bel⟩)
set_option maxRecDepth 100000 in
set_option maxHeartbeats 1000000 in
theorem matches_8 (r:R) (k:K) (ho:r.Ok) (hk:k.Ok) (w:World) (hp:r.pr≠0) (hq : ¬ r.pr=k.pr) (b2 b4:Bool) (h1:hasS r.sa r.sb k.sr=true) (h2:hasS r.da r.db k.ds=b2) (h3:inB r.sl r.sh k.sp=true) (h4:inB r.dl r.dh k.dp=b4) :
  Calls Tryz.prog 251 #[.agg #[.bool r.acc,.int .u8 (r.pr:Int),.int .u32 (r.sa:Int),.int .i64 r.sb,.int .u32 (r.da:Int),.int .i64 r.db,.int .u16 (r.sl:Int),.int .u16 (r.sh:Int),.int .u16 (r.dl:Int),.int .u16 (r.dh:Int)],.agg #[.int .u8 (k.pr:Int),.int .u32 (k.sr:Int),.int .u32 (k.ds:Int),.int .u16 (k.sp:Int),.int .u16 (k.dp:Int),.int .u8 (k.fl:Int),.int .u8 (k.kd:Int)]] w fun e w'=>e = .returned (.bool (hitB r k))/\Below w.heap.size w w':=by
 have HR:Hid (hitB r k=(false && ((true && b2) && (true && b4)))):=by
  show _=_;unfold hitB;rw [h1,h2,h3,h4,protoB_is hp,decide_eq_false hq]
 have H1:=Lib.hid (fun W=>has_any r.sa k.sr r.sb ho.sa hk.sr W)
 have H2:=Lib.hid (fun W=>has_any r.da k.ds r.db ho.da hk.ds W)
 have H3:=Lib.hid (fun W=>contains_any r.sl r.sh k.sp W)
 have H4:=Lib.hid (fun W=>contains_any r.dl r.dh k.dp W)
 rw [h1] at H1;rw [h2] at H2;rw [h3] at H3;rw [h4] at H4
 have d0:((r.pr:Int) == 0)=false:=by rw [beq_eq_false_iff_ne];omega
 have d1:((r.pr:Int) == (k.pr:Int))=false:=by rw [beq_eq_false_iff_ne];omega
 have HK:=Lib.hid (Two.box w r k)
 clear hq
 clear ho hk h1 h2 h3 h4 hp
 obtain ⟨x0,x1,x2,x3,x4,x5,x6,x7,x8,x9⟩:=HK.out.r.cells
 obtain ⟨y0,y1,y2,y3,y4,y5,y6⟩:=HK.out.k.cells
 go_enter Tryz.func251,Tryz.ntmps251
 go_wp2_with fail
 go_at_call 278
 refine (H1.out _).mono ?_
 rintro e w1 ⟨rfl,hb⟩
 have HK':=Lib.hid (HK.out.next hb)
 clear hb x0 x1 x2 x3 x4 x5 x6 x7 x8 x9 y0 y1 y2 y3 y4 y5 y6 HK H1
 have HK:=HK'
 clear HK'
 obtain ⟨x0,x1,x2,x3,x4,x5,x6,x7,x8,x9⟩:=HK.out.r.cells
 obtain ⟨y0,y1,y2,y3,y4,y5,y6⟩:=HK.out.k.cells
 go_wp2_with fail
 go_at_call 278
 refine (H2.out _).mono ?_
 rintro e w2 ⟨rfl,hb⟩
 have HK':=Lib.hid (HK.out.next hb)
 clear hb x0 x1 x2 x3 x4 x5 x6 x7 x8 x9 y0 y1 y2 y3 y4 y5 y6 HK H2
 have HK:=HK'
 clear HK'
 obtain ⟨x0,x1,x2,x3,x4,x5,x6,x7,x8,x9⟩:=HK.out.r.cells
 obtain ⟨y0,y1,y2,y3,y4,y5,y6⟩:=HK.out.k.cells
 go_wp2_with fail
 go_at_call 279
 refine (H3.out _).mono ?_
 rintro e w3 ⟨rfl,hb⟩
 have HK':=Lib.hid (HK.out.next hb)
 clear hb x0 x1 x2 x3 x4 x5 x6 x7 x8 x9 y0 y1 y2 y3 y4 y5 y6 HK H3
 have HK:=HK'
 clear HK'
 obtain ⟨x0,x1,x2,x3,x4,x5,x6,x7,x8,x9⟩:=HK.out.r.cells
 obtain ⟨y0,y1,y2,y3,y4,y5,y6⟩:=HK.out.k.cells
 go_wp2_with fail
 go_at_call 279
 refine (H4.out _).mono ?_
 rintro e w4 ⟨rfl,hb⟩
 have HK':=Lib.hid (HK.out.next hb)
 clear hb x0 x1 x2 x3 x4 x5 x6 x7 x8 x9 y0 y1 y2 y3 y4 y5 y6 HK H4
 have HK:=HK'
 clear HK'
 obtain ⟨x0,x1,x2,x3,x4,x5,x6,x7,x8,x9⟩:=HK.out.r.cells
 obtain ⟨y0,y1,y2,y3,y4,y5,y6⟩:=HK.out.k.cells
 cases b2 <;> cases b4 <;> (go_wp2_with fail;go_ret;exact ⟨ret_bool (by rw [HR.out];rfl),HK.out.r.bel⟩)
set_option maxRecDepth 100000 in
set_option maxHeartbeats 1000000 in
theorem matches_9 (r:R) (k:K) (ho:r.Ok) (hk:k.Ok) (w:World) (hp:r.pr≠0) (hq : ¬ r.pr=k.pr) (b2 b4:Bool) (h1:hasS r.sa r.sb k.sr=true) (h2:hasS r.da r.db k.ds=b2) (h3:inB r.sl r.sh k.sp=false) (h4:inB r.dl r.dh k.dp=b4) :
  Calls Tryz.prog 251 #[.agg #[.bool r.acc,.int .u8 (r.pr:Int),.int .u32 (r.sa:Int),.int .i64 r.sb,.int .u32 (r.da:Int),.int .i64 r.db,.int .u16 (r.sl:Int),.int .u16 (r.sh:Int),.int .u16 (r.dl:Int),.int .u16 (r.dh:Int)],.agg #[.int .u8 (k.pr:Int),.int .u32 (k.sr:Int),.int .u32 (k.ds:Int),.int .u16 (k.sp:Int),.int .u16 (k.dp:Int),.int .u8 (k.fl:Int),.int .u8 (k.kd:Int)]] w fun e w'=>e = .returned (.bool (hitB r k))/\Below w.heap.size w w':=by
 have HR:Hid (hitB r k=(false && ((true && b2) && (false && b4)))):=by
  show _=_;unfold hitB;rw [h1,h2,h3,h4,protoB_is hp,decide_eq_false hq]
 have H1:=Lib.hid (fun W=>has_any r.sa k.sr r.sb ho.sa hk.sr W)
 have H2:=Lib.hid (fun W=>has_any r.da k.ds r.db ho.da hk.ds W)
 have H3:=Lib.hid (fun W=>contains_any r.sl r.sh k.sp W)
 have H4:=Lib.hid (fun W=>contains_any r.dl r.dh k.dp W)
 rw [h1] at H1;rw [h2] at H2;rw [h3] at H3;rw [h4] at H4
 have d0:((r.pr:Int) == 0)=false:=by rw [beq_eq_false_iff_ne];omega
 have d1:((r.pr:Int) == (k.pr:Int))=false:=by rw [beq_eq_false_iff_ne];omega
 have HK:=Lib.hid (Two.box w r k)
 clear hq
 clear ho hk h1 h2 h3 h4 hp
 obtain ⟨x0,x1,x2,x3,x4,x5,x6,x7,x8,x9⟩:=HK.out.r.cells
 obtain ⟨y0,y1,y2,y3,y4,y5,y6⟩:=HK.out.k.cells
 go_enter Tryz.func251,Tryz.ntmps251
 go_wp2_with fail
 go_at_call 278
 refine (H1.out _).mono ?_
 rintro e w1 ⟨rfl,hb⟩
 have HK':=Lib.hid (HK.out.next hb)
 clear hb x0 x1 x2 x3 x4 x5 x6 x7 x8 x9 y0 y1 y2 y3 y4 y5 y6 HK H1
 have HK:=HK'
 clear HK'
 obtain ⟨x0,x1,x2,x3,x4,x5,x6,x7,x8,x9⟩:=HK.out.r.cells
 obtain ⟨y0,y1,y2,y3,y4,y5,y6⟩:=HK.out.k.cells
 go_wp2_with fail
 go_at_call 278
 refine (H2.out _).mono ?_
 rintro e w2 ⟨rfl,hb⟩
 have HK':=Lib.hid (HK.out.next hb)
 clear hb x0 x1 x2 x3 x4 x5 x6 x7 x8 x9 y0 y1 y2 y3 y4 y5 y6 HK H2
 have HK:=HK'
 clear HK'
 obtain ⟨x0,x1,x2,x3,x4,x5,x6,x7,x8,x9⟩:=HK.out.r.cells
 obtain ⟨y0,y1,y2,y3,y4,y5,y6⟩:=HK.out.k.cells
 go_wp2_with fail
 go_at_call 279
 refine (H3.out _).mono ?_
 rintro e w3 ⟨rfl,hb⟩
 have HK':=Lib.hid (HK.out.next hb)
 clear hb x0 x1 x2 x3 x4 x5 x6 x7 x8 x9 y0 y1 y2 y3 y4 y5 y6 HK H3
 have HK:=HK'
 clear HK'
 obtain ⟨x0,x1,x2,x3,x4,x5,x6,x7,x8,x9⟩:=HK.out.r.cells
 obtain ⟨y0,y1,y2,y3,y4,y5,y6⟩:=HK.out.k.cells
 cases b2 <;> cases b4 <;> (go_wp2_with fail;go_ret;exact ⟨ret_bool (by rw [HR.out];rfl),HK.out.r.bel⟩)
set_option maxRecDepth 100000 in
set_option maxHeartbeats 1000000 in
theorem matches_10 (r:R) (k:K) (ho:r.Ok) (hk:k.Ok) (w:World) (hp:r.pr≠0) (hq : ¬ r.pr=k.pr) (b2 b4:Bool) (h1:hasS r.sa r.sb k.sr=false) (h2:hasS r.da r.db k.ds=b2) (h3:inB r.sl r.sh k.sp=true) (h4:inB r.dl r.dh k.dp=b4) :
  Calls Tryz.prog 251 #[.agg #[.bool r.acc,.int .u8 (r.pr:Int),.int .u32 (r.sa:Int),.int .i64 r.sb,.int .u32 (r.da:Int),.int .i64 r.db,.int .u16 (r.sl:Int),.int .u16 (r.sh:Int),.int .u16 (r.dl:Int),.int .u16 (r.dh:Int)],.agg #[.int .u8 (k.pr:Int),.int .u32 (k.sr:Int),.int .u32 (k.ds:Int),.int .u16 (k.sp:Int),.int .u16 (k.dp:Int),.int .u8 (k.fl:Int),.int .u8 (k.kd:Int)]] w fun e w'=>e = .returned (.bool (hitB r k))/\Below w.heap.size w w':=by
 have HR:Hid (hitB r k=(false && ((false && b2) && (true && b4)))):=by
  show _=_;unfold hitB;rw [h1,h2,h3,h4,protoB_is hp,decide_eq_false hq]
 have H1:=Lib.hid (fun W=>has_any r.sa k.sr r.sb ho.sa hk.sr W)
 have H2:=Lib.hid (fun W=>has_any r.da k.ds r.db ho.da hk.ds W)
 have H3:=Lib.hid (fun W=>contains_any r.sl r.sh k.sp W)
 have H4:=Lib.hid (fun W=>contains_any r.dl r.dh k.dp W)
 rw [h1] at H1;rw [h2] at H2;rw [h3] at H3;rw [h4] at H4
 have d0:((r.pr:Int) == 0)=false:=by rw [beq_eq_false_iff_ne];omega
 have d1:((r.pr:Int) == (k.pr:Int))=false:=by rw [beq_eq_false_iff_ne];omega
 have HK:=Lib.hid (Two.box w r k)
 clear hq
 clear ho hk h1 h2 h3 h4 hp
 obtain ⟨x0,x1,x2,x3,x4,x5,x6,x7,x8,x9⟩:=HK.out.r.cells
 obtain ⟨y0,y1,y2,y3,y4,y5,y6⟩:=HK.out.k.cells
 go_enter Tryz.func251,Tryz.ntmps251
 go_wp2_with fail
 go_at_call 278
 refine (H1.out _).mono ?_
 rintro e w1 ⟨rfl,hb⟩
 have HK':=Lib.hid (HK.out.next hb)
 clear hb x0 x1 x2 x3 x4 x5 x6 x7 x8 x9 y0 y1 y2 y3 y4 y5 y6 HK H1
 have HK:=HK'
 clear HK'
 obtain ⟨x0,x1,x2,x3,x4,x5,x6,x7,x8,x9⟩:=HK.out.r.cells
 obtain ⟨y0,y1,y2,y3,y4,y5,y6⟩:=HK.out.k.cells
 go_wp2_with fail
 go_at_call 279
 refine (H3.out _).mono ?_
 rintro e w3 ⟨rfl,hb⟩
 have HK':=Lib.hid (HK.out.next hb)
 clear hb x0 x1 x2 x3 x4 x5 x6 x7 x8 x9 y0 y1 y2 y3 y4 y5 y6 HK H3
 have HK:=HK'
 clear HK'
 obtain ⟨x0,x1,x2,x3,x4,x5,x6,x7,x8,x9⟩:=HK.out.r.cells
 obtain ⟨y0,y1,y2,y3,y4,y5,y6⟩:=HK.out.k.cells
 go_wp2_with fail
 go_at_call 279
 refine (H4.out _).mono ?_
 rintro e w4 ⟨rfl,hb⟩
 have HK':=Lib.hid (HK.out.next hb)
 clear hb x0 x1 x2 x3 x4 x5 x6 x7 x8 x9 y0 y1 y2 y3 y4 y5 y6 HK H4
 have HK:=HK'
 clear HK'
 obtain ⟨x0,x1,x2,x3,x4,x5,x6,x7,x8,x9⟩:=HK.out.r.cells
 obtain ⟨y0,y1,y2,y3,y4,y5,y6⟩:=HK.out.k.cells
 cases b2 <;> cases b4 <;> (go_wp2_with fail;go_ret;exact ⟨ret_bool (by rw [HR.out];rfl),HK.out.r.bel⟩)
set_option maxRecDepth 100000 in
set_option maxHeartbeats 1000000 in
theorem matches_11 (r:R) (k:K) (ho:r.Ok) (hk:k.Ok) (w:World) (hp:r.pr≠0) (hq : ¬ r.pr=k.pr) (b2 b4:Bool) (h1:hasS r.sa r.sb k.sr=false) (h2:hasS r.da r.db k.ds=b2) (h3:inB r.sl r.sh k.sp=false) (h4:inB r.dl r.dh k.dp=b4) :
  Calls Tryz.prog 251 #[.agg #[.bool r.acc,.int .u8 (r.pr:Int),.int .u32 (r.sa:Int),.int .i64 r.sb,.int .u32 (r.da:Int),.int .i64 r.db,.int .u16 (r.sl:Int),.int .u16 (r.sh:Int),.int .u16 (r.dl:Int),.int .u16 (r.dh:Int)],.agg #[.int .u8 (k.pr:Int),.int .u32 (k.sr:Int),.int .u32 (k.ds:Int),.int .u16 (k.sp:Int),.int .u16 (k.dp:Int),.int .u8 (k.fl:Int),.int .u8 (k.kd:Int)]] w fun e w'=>e = .returned (.bool (hitB r k))/\Below w.heap.size w w':=by
 have HR:Hid (hitB r k=(false && ((false && b2) && (false && b4)))):=by
  show _=_;unfold hitB;rw [h1,h2,h3,h4,protoB_is hp,decide_eq_false hq]
 have H1:=Lib.hid (fun W=>has_any r.sa k.sr r.sb ho.sa hk.sr W)
 have H2:=Lib.hid (fun W=>has_any r.da k.ds r.db ho.da hk.ds W)
 have H3:=Lib.hid (fun W=>contains_any r.sl r.sh k.sp W)
 have H4:=Lib.hid (fun W=>contains_any r.dl r.dh k.dp W)
 rw [h1] at H1;rw [h2] at H2;rw [h3] at H3;rw [h4] at H4
 have d0:((r.pr:Int) == 0)=false:=by rw [beq_eq_false_iff_ne];omega
 have d1:((r.pr:Int) == (k.pr:Int))=false:=by rw [beq_eq_false_iff_ne];omega
 have HK:=Lib.hid (Two.box w r k)
 clear hq
 clear ho hk h1 h2 h3 h4 hp
 obtain ⟨x0,x1,x2,x3,x4,x5,x6,x7,x8,x9⟩:=HK.out.r.cells
 obtain ⟨y0,y1,y2,y3,y4,y5,y6⟩:=HK.out.k.cells
 go_enter Tryz.func251,Tryz.ntmps251
 go_wp2_with fail
 go_at_call 278
 refine (H1.out _).mono ?_
 rintro e w1 ⟨rfl,hb⟩
 have HK':=Lib.hid (HK.out.next hb)
 clear hb x0 x1 x2 x3 x4 x5 x6 x7 x8 x9 y0 y1 y2 y3 y4 y5 y6 HK H1
 have HK:=HK'
 clear HK'
 obtain ⟨x0,x1,x2,x3,x4,x5,x6,x7,x8,x9⟩:=HK.out.r.cells
 obtain ⟨y0,y1,y2,y3,y4,y5,y6⟩:=HK.out.k.cells
 go_wp2_with fail
 go_at_call 279
 refine (H3.out _).mono ?_
 rintro e w3 ⟨rfl,hb⟩
 have HK':=Lib.hid (HK.out.next hb)
 clear hb x0 x1 x2 x3 x4 x5 x6 x7 x8 x9 y0 y1 y2 y3 y4 y5 y6 HK H3
 have HK:=HK'
 clear HK'
 obtain ⟨x0,x1,x2,x3,x4,x5,x6,x7,x8,x9⟩:=HK.out.r.cells
 obtain ⟨y0,y1,y2,y3,y4,y5,y6⟩:=HK.out.k.cells
 cases b2 <;> cases b4 <;> (go_wp2_with fail;go_ret;exact ⟨ret_bool (by rw [HR.out];rfl),HK.out.r.bel⟩)
theorem matches_any (r:R) (k:K) (ho:r.Ok) (hk:k.Ok) (w:World) :
  Calls Tryz.prog 251 #[.agg #[.bool r.acc,.int .u8 (r.pr:Int),.int .u32 (r.sa:Int),.int .i64 r.sb,.int .u32 (r.da:Int),.int .i64 r.db,.int .u16 (r.sl:Int),.int .u16 (r.sh:Int),.int .u16 (r.dl:Int),.int .u16 (r.dh:Int)],.agg #[.int .u8 (k.pr:Int),.int .u32 (k.sr:Int),.int .u32 (k.ds:Int),.int .u16 (k.sp:Int),.int .u16 (k.dp:Int),.int .u8 (k.fl:Int),.int .u8 (k.kd:Int)]] w fun e w'=>e = .returned (.bool (hitB r k))/\Below w.heap.size w w':=by
 by_cases hp:r.pr=0
 ·cases h1:hasS r.sa r.sb k.sr <;> cases h3:inB r.sl r.sh k.sp
  ·exact matches_3 r k ho hk w hp _ _ h1 rfl h3 rfl
  ·exact matches_2 r k ho hk w hp _ _ h1 rfl h3 rfl
  ·exact matches_1 r k ho hk w hp _ _ h1 rfl h3 rfl
  ·exact matches_0 r k ho hk w hp _ _ h1 rfl h3 rfl
 ·by_cases hq:r.pr=k.pr
  ·cases h1:hasS r.sa r.sb k.sr <;> cases h3:inB r.sl r.sh k.sp
   ·exact matches_7 r k ho hk w hp hq _ _ h1 rfl h3 rfl
   ·exact matches_6 r k ho hk w hp hq _ _ h1 rfl h3 rfl
   ·exact matches_5 r k ho hk w hp hq _ _ h1 rfl h3 rfl
   ·exact matches_4 r k ho hk w hp hq _ _ h1 rfl h3 rfl
  ·cases h1:hasS r.sa r.sb k.sr <;> cases h3:inB r.sl r.sh k.sp
   ·exact matches_11 r k ho hk w hp hq _ _ h1 rfl h3 rfl
   ·exact matches_10 r k ho hk w hp hq _ _ h1 rfl h3 rfl
   ·exact matches_9 r k ho hk w hp hq _ _ h1 rfl h3 rfl
   ·exact matches_8 r k ho hk w hp hq _ _ h1 rfl h3 rfl
end Ma
end Go.Proofs.YtcockldefmmhbaaGreatDoor
set_option linter.unusedVariables false
set_option linter.unusedSimpArgs false
set_option maxRecDepth 100000
namespace Go.Proofs.YtcockldefmmhbaaGreatDoor
open Go.ChangeShapes Go.WideShapes Go.ChangeAt Go.RowKit Go.Mtl Go.Lib
namespace Ma
open RulM (R)
open MatM (K few)
theorem cellsRs_one (rs:List R):∀ u ∈ cellsRs rs,u.oneCell'=true:=by
 induction rs with
 | nil=>intro u hu;cases hu
 | cons r rs ih =>
  intro u hu
  rcases List.mem_append.1 hu with hu | hu
  ·simp [cellsR] at hu
   rcases hu with rfl | rfl | rfl | rfl | rfl | rfl | rfl | rfl | rfl | rfl <;> rfl
  ·exact ih u hu
abbrev zR:Array Value:=#[.bool false,.int .u8 0,.int .u32 0,.int .i64 0,.int .u32 0,.int .i64 0,.int .u16 0,.int .u16 0,.int .u16 0,.int .u16 0]
theorem info_rule:(Tryz.prog.info? 80).map (fun i=>(i.zero,i.size,i.bytes))=some (some (.agg zR),10,48):=by kernel_rfl
theorem parts_rule:∃ i,Tryz.prog.info? 80=some i/\i.zero=some (.agg zR)/\i.size=10/\i.bytes=48:=by
 have h:=info_rule
 cases hi:Tryz.prog.info? 80 with
 | none=>rw [hi] at h;cases h
 | some i=>rw [hi] at h;simp at h;exact ⟨i,rfl,h.1,h.2.1,h.2.2⟩
theorem run_append_rds {w W0:World} (ty:TypeId) (v:Value) (xs:List R) (hown:w.ownsRow W0.heap.size 80 10 v xs.length (cellsRs xs)) (hbel:Below W0.heap.size W0 w)
  (B:Nat) (A:Option Addr) (m c:Nat) (ys:List R) (hm:ys.length=m) (hr:Rds w B (.slice A m c) ys) (hlen:xs.length+m<=100000) :
  ∃ v' w',(Builtin.append_ #[25,25] ty #[v,.slice A m c]).run Tryz.prog w = .ok v' w'/\w'.ownsRow W0.heap.size 80 10 v' (xs ++ ys).length (cellsRs (xs ++ ys))/\Below W0.heap.size W0 w':=by
 obtain ⟨i,hi,hz0,hz1,hz2⟩:=parts_rule
 obtain ⟨A',c',e,h2,h3,h4⟩:=hr
 injection e with e1 e2 e3
 subst e1 e3
 rw [List.length_append,cellsRs_append,hm]
 rcases A with _ | ad
 ·have hm0:m=0:=by
   rcases Nat.eq_zero_or_pos m with h0 | h0
   ·exact h0
   ·obtain ⟨_,_,h,_⟩:=h4 (by omega)
    cases h
  subst hm0
  obtain rfl:ys=[]:=List.eq_nil_of_length_eq_zero hm
  refine ⟨v,w,?_,by simpa [cellsRs] using hown,hbel⟩
  rcases hown.2 with ⟨rfl,h0⟩ | ⟨g,cap,cur,rfl,_,_,hnc,_⟩
  ·simp [Builtin.append_,run_underlying Tryz.underlying25,sizeOf,typeInfo,hi,Builtin.lenOf,Builtin.firstCells]
  ·simp [Builtin.append_,run_underlying Tryz.underlying25,sizeOf,typeInfo,hi,Builtin.lenOf,Builtin.firstCells,hnc,storeCells]
 ·obtain ⟨v',w',h0,h1,h2',_,_⟩:=run_append_own_at (P:=Tryz.prog) w W0.heap.size 25 ty 80 i (.agg zR) 10 48 Tryz.underlying25 hi hz0 hz1 hz2 rfl (by omega) v xs.length (cellsRs xs) hown ad m c (cellsRs ys) (by rw [cellsRs_len,hm])
   (by
    intro j u hu
    have hj:j < (cellsRs ys).length:=(List.getElem?_eq_some_iff.1 hu).1
    rw [cellsRs_len] at hj
    obtain ⟨b,off,h,_,hc⟩:=h4 (by omega)
    injection h with h
    subst h
    rw [add_plain']
    exact hc j u hu)
   (cellsRs_one ys) (by unfold maxLen;omega) (by omega) hbel.size
  exact ⟨v',w',h0,h1,hbel.grown h2' hbel.size fun k hk=>(hown.lt k hk).1⟩
theorem step_append_rds {w:World} {o:Oper} {a:Act} {Kt:Act->World->Prop} {Q:Exit->Act->World->Prop} {ops:Array Oper} {E:Prop} (W0:World) (hgd:o.guard=none) (s x:Operand)
  (ho:o.op = .call { callee:=.builtin .append,args:=#[s,x],argTypes:=#[25,25] })
  (v:Value) (xs:List R) (hs:a.eval s=v) (hown:w.ownsRow W0.heap.size 80 10 v xs.length (cellsRs xs)) (hbel:Below W0.heap.size W0 w)
  (B:Nat) (A:Option Addr) (m c:Nat) (ys:List R) (hx:a.eval x = .slice A m c) (hm:ys.length=m) (hr:Rds w B (.slice A m c) ys) (hlen:xs.length+m<=100000)
  (h:∀ v' w',Hid (w'.ownsRow W0.heap.size 80 10 v' (xs ++ ys).length (cellsRs (xs ++ ys)))->Hid (Below W0.heap.size W0 w')->Kt (a.put o.dst v') w') :
  if Region.wanted o (yielded ops a.tmps)=true then Oper.wp Tryz.prog o a w Kt Q else E:=by
 have hw:Region.wanted o (yielded ops a.tmps)=true:=by simp [Region.wanted,hgd]
 rw [if_pos hw]
 obtain ⟨v',w',h0,h1,h2⟩:=run_append_rds o.type v xs hown hbel B A m c ys hm hr hlen
 unfold Oper.wp execOp
 simp only [ho,resolve,invoke,builtin,Sem.run_bind,Sem.run_pure,Result.andThen_ok,List.map_toArray,List.map_cons,List.map_nil,hs,hx,h0]
 exact h _ _ h1 h2
end Ma
end Go.Proofs.YtcockldefmmhbaaGreatDoor
