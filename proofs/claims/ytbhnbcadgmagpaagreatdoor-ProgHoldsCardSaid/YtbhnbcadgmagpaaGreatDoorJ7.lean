import Derived.Test.YtbhnbcadgmagpaaGreatDoorBig
import Derived.Test.YtbhnbcadgmagpaaGreatDoorJ5
import Derived.Test.YtbhnbcadgmagpaaGreatDoorJ1
import Derived.Test.YtbhnbcadgmagpaaGreatDoorRows
import Derived.Test.YtbhnbcadgmagpaaGreatDoorJ3
set_option linter.unusedVariables false
set_option linter.unusedSimpArgs false
set_option maxHeartbeats 1000000
set_option maxRecDepth 100000
namespace dJ
open qL
def gI(c k v:Int):Int:=c+k*1099511627776+v*4503599627370496
structure Fit(c k v:Int):Prop where
 c0:0<=c
 c1:c<1099511627776
 k0:0<=k
 k1:k<4096
 v0:0<=v
 v1:v<4096
theorem Fit.of(c k v:Int)(h:0<=c/\c<1099511627776/\0<=k/\k<4096/\0<=v/\v<4096):Fit c k v:=⟨h.1,h.2.1,h.2.2.1,h.2.2.2.1,h.2.2.2.2.1,h.2.2.2.2.2⟩
theorem kp{c k v:Int}(h:Fit c k v):0<=gI c k v:=by
 obtain⟨_,_,_,_,_,_⟩:=h;unfold gI;omega
theorem kq{c k v:Int}(h:Fit c k v):gI c k v<18446744073709551616:=by
 obtain⟨_,_,_,_,_,_⟩:=h;unfold gI;omega
theorem sn{c k v:Int}(h:Fit c k v):((pG (gI c k v).toNat (0:Int).toNat (40:Int).toNat:Nat):Int)=c:=by
 obtain⟨_,_,_,_,_,_⟩:=h;unfold gI pG;show(((c+k*1099511627776+v*4503599627370496).toNat / 1 % 1099511627776:Nat):Int)=c;omega
theorem jh{c k v:Int}(h:Fit c k v):((pG (gI c k v).toNat (40:Int).toNat (12:Int).toNat:Nat):Int)=k:=by
 obtain⟨_,_,_,_,_,_⟩:=h;unfold gI pG;show(((c+k*1099511627776+v*4503599627370496).toNat / 1099511627776 % 4096:Nat):Int)=k;omega
theorem pH{c k v:Int}(h:Fit c k v):((pG (gI c k v).toNat (52:Int).toNat (12:Int).toNat:Nat):Int)=v:=by
 obtain⟨_,_,_,_,_,_⟩:=h;unfold gI pG;show(((c+k*1099511627776+v*4503599627370496).toNat / 4503599627370496 % 4096:Nat):Int)=v;omega
theorem tM{c k v n:Int}(h:Fit c k v)(h0:0<=n)(h1:n<1099511627776):((me (gI c k v).toNat (0:Int).toNat (40:Int).toNat n.toNat:Nat):Int)=gI n k v:=by
 obtain⟨_,_,_,_,_,_⟩:=h;unfold gI me;show(((c+k*1099511627776+v*4503599627370496).toNat % 1+n.toNat % 1099511627776*1+(c+k*1099511627776+v*4503599627370496).toNat / 1099511627776*1099511627776:Nat):Int)=_;omega
theorem su{c k v n:Int}(h:Fit c k v)(h0:0<=n)(h1:n<4096):((me (gI c k v).toNat (40:Int).toNat (12:Int).toNat n.toNat:Nat):Int)=gI c n v:=by
 obtain⟨_,_,_,_,_,_⟩:=h;unfold gI me;show(((c+k*1099511627776+v*4503599627370496).toNat % 1099511627776+n.toNat % 4096*1099511627776+(c+k*1099511627776+v*4503599627370496).toNat / 4503599627370496*4503599627370496:Nat):Int)=_;omega
theorem sy{c k v n:Int}(h:Fit c k v)(h0:0<=n)(h1:n<4096):((me (gI c k v).toNat (52:Int).toNat (12:Int).toNat n.toNat:Nat):Int)=gI c k n:=by
 obtain⟨_,_,_,_,_,_⟩:=h;unfold gI me;show(((c+k*1099511627776+v*4503599627370496).toNat % 4503599627370496+n.toNat % 4096*4503599627370496+(c+k*1099511627776+v*4503599627370496).toNat / 18446744073709551616*18446744073709551616:Nat):Int)=_;omega
end dJ
namespace Go.Proofs.YtbhnbcadgmagpaaGreatDoor
open Go.Lib (hid)
open Go.ChangeShapes Go.WideShapes Go.ChangeAt Go.RowKit Go.aN
namespace Ga
open dJ (gI Fit)
theorem ur:Tryz.prog.globalNamed "mantlet/gate.parts" = some 0:=zk
structure Env(w:World):Prop where
 c0:w.cell? ⟨0,0,none⟩=some (.int .i64 0)
 c1:w.cell? ⟨0,1,none⟩=some (.int .i64 40)
 c2:w.cell? ⟨0,2,none⟩=some (.int .i64 1099511627775)
 c3:w.cell? ⟨0,3,none⟩=some (.int .i64 40)
 c4:w.cell? ⟨0,4,none⟩=some (.int .i64 12)
 c5:w.cell? ⟨0,5,none⟩=some (.int .i64 4095)
 c6:w.cell? ⟨0,6,none⟩=some (.int .i64 52)
 c7:w.cell? ⟨0,7,none⟩=some (.int .i64 12)
 c8:w.cell? ⟨0,8,none⟩=some (.int .i64 4095)
theorem Env.lt{w:World}(h:Env w):0<w.heap.size:=World.block_lt_of_cell? _ _ h.c0
theorem Env.below{w w':World}(h:Env w){B:Nat}(hb:Below B w w')(hB:w.heap.size<=B):Env w':=by
 have hlt:=h.lt;have k:∀i,w'.cell? ⟨0,i,none⟩=w.cell? ⟨0,i,none⟩:=λi=>hb.cell (Nat.lt_of_lt_of_le hlt hB);exact⟨(k 0).trans h.c0,(k 1).trans h.c1,(k 2).trans h.c2,(k 3).trans h.c3,(k 4).trans h.c4,(k 5).trans h.c5,(k 6).trans h.c6,(k 7).trans h.c7,(k 8).trans h.c8⟩
theorem Env.alloc{w:World}(h:Env w)(o:Obj):Env (w.alloc o):=h.below ((Below.refl _ _).alloc zl o) zl
theorem Env.drewN{w:World}(h:Env w)(n:Nat):Env (w.drewN n):=⟨h.c0,h.c1,h.c2,h.c3,h.c4,h.c5,h.c6,h.c7,h.c8⟩
theorem C9{c k v:Int}(h:Fit c k v)(W:World) :
  Calls Tryz.prog 124 #[.int .u64 (gI c k v),.int .i64 0,.int .i64 40] W λe w'=>e = .returned (.int .u64 c)/\∃n,w'=W.drewN n:=by
 have:=nK.nL (gI c k v) 0 40 (dJ.kp h) (dJ.kq h) zo zo zo W
 unfold nK.yD at this
 rwa [dJ.sn h]at this
theorem C_{c k v:Int}(h:Fit c k v)(W:World) :
  Calls Tryz.prog 124 #[.int .u64 (gI c k v),.int .i64 40,.int .i64 12] W λe w'=>e = .returned (.int .u64 k)/\∃n,w'=W.drewN n:=by
 have:=nK.nL (gI c k v) 40 12 (dJ.kp h) (dJ.kq h) zo zo zo W
 unfold nK.yD at this
 rwa [dJ.jh h]at this
theorem Da{c k v:Int}(h:Fit c k v)(W:World) :
  Calls Tryz.prog 124 #[.int .u64 (gI c k v),.int .i64 52,.int .i64 12] W λe w'=>e = .returned (.int .u64 v)/\∃n,w'=W.drewN n:=by
 have:=nK.nL (gI c k v) 52 12 (dJ.kp h) (dJ.kq h) zo zo zo W
 unfold nK.yD at this
 rwa [dJ.pH h]at this
theorem Db{c k v n:Int}(h:Fit c k v)(h0:0<=n)(h1:n<1099511627776)(W:World) :
  Calls Tryz.prog 207 #[.int .u64 (gI c k v),.int .i64 0,.int .i64 40,.int .u64 n] W λe w'=>e = .returned (.int .u64 (gI n k v))/\∃n,w'=W.drewN n:=by
 have:=nK.jR (gI c k v) 0 40 n (dJ.kp h) (dJ.kq h) h0 zo zo zo zo W
 unfold nK.yE at this
 rwa [dJ.tM h h0 h1]at this
theorem Dc{c k v n:Int}(h:Fit c k v)(h0:0<=n)(h1:n<4096)(W:World) :
  Calls Tryz.prog 207 #[.int .u64 (gI c k v),.int .i64 40,.int .i64 12,.int .u64 n] W λe w'=>e = .returned (.int .u64 (gI c n v))/\∃n,w'=W.drewN n:=by
 have:=nK.jR (gI c k v) 40 12 n (dJ.kp h) (dJ.kq h) h0 zo zo zo zo W
 unfold nK.yE at this
 rwa [dJ.su h h0 h1]at this
theorem Dd{c k v n:Int}(h:Fit c k v)(h0:0<=n)(h1:n<4096)(W:World) :
  Calls Tryz.prog 207 #[.int .u64 (gI c k v),.int .i64 52,.int .i64 12,.int .u64 n] W λe w'=>e = .returned (.int .u64 (gI c k n))/\∃n,w'=W.drewN n:=by
 have:=nK.jR (gI c k v) 52 12 n (dJ.kp h) (dJ.kq h) h0 zo zo zo zo W
 unfold nK.yE at this
 rwa [dJ.sy h h0 h1]at this
theorem sn{c k v:Int}(h:Fit c k v)(W:World)(he:Env W) :
  Calls Tryz.prog 85 #[.int .u64 (gI c k v),.int .i64 0] W λe w'=>e = .returned (.int .i64 c)/\∃n,w'=W.drewN n:=by
 have H:=hid h
 obtain⟨b0,b1,b2,b3,b4,b5⟩:=h
 have x0:=he.c0
 have x1:=he.c1
 have hw:wrap64 c=c:=IntWalk.wrap64_in _ zo
 clear he b0 b1 b2 b3 b4 b5
 go_in
 go_wp2_with fail
 refine aD 9 zk zk W.drew rfl ?_
 simp only[List.take_succ_cons,List.take_zero,List.drop_succ_cons,List.drop_zero]
 repeat still_step
 refine wpStill_nil ?_
 go_wp2_with (go_at_call 124;refine(C9 H.out _).mono ?_;rintro e w' ⟨rfl,nq,rfl⟩)
 go_ret
 refine⟨?_,1+nq,rfl⟩
 show Ending.returned (.int .i64 (wrap64 c))=_
 rw[hw]
theorem jh{c k v:Int}(h:Fit c k v)(W:World)(he:Env W) :
  Calls Tryz.prog 85 #[.int .u64 (gI c k v),.int .i64 1] W λe w'=>e = .returned (.int .i64 k)/\∃n,w'=W.drewN n:=by
 have H:=hid h
 obtain⟨b0,b1,b2,b3,b4,b5⟩:=h
 have x0:=he.c3
 have x1:=he.c4
 have hw:wrap64 k=k:=IntWalk.wrap64_in _ zo
 clear he b0 b1 b2 b3 b4 b5
 go_in
 go_wp2_with fail
 refine aD 9 zk zk W.drew rfl ?_
 simp only[List.take_succ_cons,List.take_zero,List.drop_succ_cons,List.drop_zero]
 repeat still_step
 refine wpStill_nil ?_
 go_wp2_with (go_at_call 124;refine(C_ H.out _).mono ?_;rintro e w' ⟨rfl,nq,rfl⟩)
 go_ret
 refine⟨?_,1+nq,rfl⟩
 show Ending.returned (.int .i64 (wrap64 k))=_
 rw[hw]
theorem pH{c k v:Int}(h:Fit c k v)(W:World)(he:Env W) :
  Calls Tryz.prog 85 #[.int .u64 (gI c k v),.int .i64 2] W λe w'=>e = .returned (.int .i64 v)/\∃n,w'=W.drewN n:=by
 have H:=hid h
 obtain⟨b0,b1,b2,b3,b4,b5⟩:=h
 have x0:=he.c6
 have x1:=he.c7
 have hw:wrap64 v=v:=IntWalk.wrap64_in _ zo
 clear he b0 b1 b2 b3 b4 b5
 go_in
 go_wp2_with fail
 refine aD 9 zk zk W.drew rfl ?_
 simp only[List.take_succ_cons,List.take_zero,List.drop_succ_cons,List.drop_zero]
 repeat still_step
 refine wpStill_nil ?_
 go_wp2_with (go_at_call 124;refine(Da H.out _).mono ?_;rintro e w' ⟨rfl,nq,rfl⟩)
 go_ret
 refine⟨?_,1+nq,rfl⟩
 show Ending.returned (.int .i64 (wrap64 v))=_
 rw[hw]
theorem tM{c k v n:Int}(h:Fit c k v)(h0:0<=n)(h1:n<1099511627776)(W:World)(he:Env W) :
  Calls Tryz.prog 153 #[.int .u64 (gI c k v),.int .i64 0,.int .i64 n] W λe w'=>e = .returned (.int .u64 (gI n k v))/\∃n,w'=W.drewN n:=by
 have H:=hid h
 have H0:=hid h0
 have H1:=hid h1
 have x0:=he.c0
 have x1:=he.c1
 have hw:IntKind.u64.wrap n=n:=by rw[IntKind.wrap_u64];omega
 clear he h
 go_in
 go_wp2_with fail
 refine aD 11 zk zk W.drew rfl ?_
 simp only[List.take_succ_cons,List.take_zero,List.drop_succ_cons,List.drop_zero]
 repeat still_step
 refine wpStill_nil ?_
 go_wp2_with (go_at_call 207;refine(Db H.out H0.out H1.out _).mono ?_;rintro e w' ⟨rfl,nq,rfl⟩)
 go_ret
 exact⟨rfl,1+nq,rfl⟩
theorem su{c k v n:Int}(h:Fit c k v)(h0:0<=n)(h1:n<4096)(W:World)(he:Env W) :
  Calls Tryz.prog 153 #[.int .u64 (gI c k v),.int .i64 1,.int .i64 n] W λe w'=>e = .returned (.int .u64 (gI c n v))/\∃n,w'=W.drewN n:=by
 have H:=hid h
 have H0:=hid h0
 have H1:=hid h1
 have x0:=he.c3
 have x1:=he.c4
 have hw:IntKind.u64.wrap n=n:=by rw[IntKind.wrap_u64];omega
 clear he h
 go_in
 go_wp2_with fail
 refine aD 11 zk zk W.drew rfl ?_
 simp only[List.take_succ_cons,List.take_zero,List.drop_succ_cons,List.drop_zero]
 repeat still_step
 refine wpStill_nil ?_
 go_wp2_with (go_at_call 207;refine(Dc H.out H0.out H1.out _).mono ?_;rintro e w' ⟨rfl,nq,rfl⟩)
 go_ret
 exact⟨rfl,1+nq,rfl⟩
theorem sy{c k v n:Int}(h:Fit c k v)(h0:0<=n)(h1:n<4096)(W:World)(he:Env W) :
  Calls Tryz.prog 153 #[.int .u64 (gI c k v),.int .i64 2,.int .i64 n] W λe w'=>e = .returned (.int .u64 (gI c k n))/\∃n,w'=W.drewN n:=by
 have H:=hid h
 have H0:=hid h0
 have H1:=hid h1
 have x0:=he.c6
 have x1:=he.c7
 have hw:IntKind.u64.wrap n=n:=by rw[IntKind.wrap_u64];omega
 clear he h
 go_in
 go_wp2_with fail
 refine aD 11 zk zk W.drew rfl ?_
 simp only[List.take_succ_cons,List.take_zero,List.drop_succ_cons,List.drop_zero]
 repeat still_step
 refine wpStill_nil ?_
 go_wp2_with (go_at_call 207;refine(Dd H.out H0.out H1.out _).mono ?_;rintro e w' ⟨rfl,nq,rfl⟩)
 go_ret
 exact⟨rfl,1+nq,rfl⟩
theorem Kh{c k v:Int}(h:Fit c k v)(hm:k=4095)(W:World)(he:Env W) :
  Calls Tryz.prog 220 #[.int .u64 (gI c k v),.int .i64 1] W λe w'=>e = .returned (.tuple #[.int .u64 (gI c k v),.bool false])/\∃n,w'=W.drewN n:=by
 have H:=hid h
 have HE:=hid he
 have x0:=he.c5
 have hd:(k==(4095:Int))=true:=by rw[hm];rfl
 clear he h hm
 go_in
 go_wp2_with (go_at_call 85;refine(jh H.out _ HE.out).mono ?_;rintro e w' ⟨rfl,nq,rfl⟩)
 go_ret2
 exact⟨rfl,nq,rfl⟩
theorem Gg{c k v:Int}(h:Fit c k v)(hm:k≠4095)(W:World)(he:Env W) :
  Calls Tryz.prog 220 #[.int .u64 (gI c k v),.int .i64 1] W λe w'=>e = .returned (.tuple #[.int .u64 (gI c (k+1) v),.bool true])/\∃n,w'=W.drewN n:=by
 have H:=hid h
 have HE:=hid he
 have x0:=he.c5
 have hd:(k==(4095:Int))=false:=by simpa using hm
 obtain⟨b0,b1,b2,b3,b4,b5⟩:=h
 have hw:wrap64 (k+1)=k+1:=IntWalk.wrap64_in _ zo
 have H0:Hid (0<=k+1/\k+1<4096):=by show _/\_;omega
 clear he hm b0 b1 b2 b3 b4 b5
 go_in
 go_wp2_with (go_at_call 85;refine(jh H.out _ HE.out).mono ?_;rintro e w' ⟨rfl,nq,rfl⟩)
 refine(su H.out H0.out.1 H0.out.2 _ (HE.out.drewN nq)).mono ?_
 rintro e w' ⟨rfl,nr,rfl⟩
 go_wp2_with fail
 go_ret2
 exact⟨rfl,nq+nr,rfl⟩
theorem Ki{c k v:Int}(h:Fit c k v)(hm:v=4095)(W:World)(he:Env W) :
  Calls Tryz.prog 220 #[.int .u64 (gI c k v),.int .i64 2] W λe w'=>e = .returned (.tuple #[.int .u64 (gI c k v),.bool false])/\∃n,w'=W.drewN n:=by
 have H:=hid h
 have HE:=hid he
 have x0:=he.c8
 have hd:(v==(4095:Int))=true:=by rw[hm];rfl
 clear he h hm
 go_in
 go_wp2_with (go_at_call 85;refine(pH H.out _ HE.out).mono ?_;rintro e w' ⟨rfl,nq,rfl⟩)
 go_ret2
 exact⟨rfl,nq,rfl⟩
theorem Gh{c k v:Int}(h:Fit c k v)(hm:v≠4095)(W:World)(he:Env W) :
  Calls Tryz.prog 220 #[.int .u64 (gI c k v),.int .i64 2] W λe w'=>e = .returned (.tuple #[.int .u64 (gI c k (v+1)),.bool true])/\∃n,w'=W.drewN n:=by
 have H:=hid h
 have HE:=hid he
 have x0:=he.c8
 have hd:(v==(4095:Int))=false:=by simpa using hm
 obtain⟨b0,b1,b2,b3,b4,b5⟩:=h
 have hw:wrap64 (v+1)=v+1:=IntWalk.wrap64_in _ zo
 have H0:Hid (0<=v+1/\v+1<4096):=by show _/\_;omega
 clear he hm b0 b1 b2 b3 b4 b5
 go_in
 go_wp2_with (go_at_call 85;refine(pH H.out _ HE.out).mono ?_;rintro e w' ⟨rfl,nq,rfl⟩)
 refine(sy H.out H0.out.1 H0.out.2 _ (HE.out.drewN nq)).mono ?_
 rintro e w' ⟨rfl,nr,rfl⟩
 go_wp2_with fail
 go_ret2
 exact⟨rfl,nq+nr,rfl⟩
theorem NS{c k v:Int}(h:Fit c k v)(hm:v=4095)(W:World)(he:Env W) :
  Calls Tryz.prog 163 #[.int .u64 (gI c k v)] W λe w'=>e = .returned (.tuple #[.int .u64 (gI c k v),.bool false])/\∃n,w'=W.drewN n:=by
 have H:=hid (Ki h hm W he)
 clear h hm he
 go_in
 go_wp2_with (go_at_call 220;refine H.out.mono ?_;rintro e w' ⟨rfl,nq,rfl⟩)
 go_ret2
 exact⟨rfl,nq,rfl⟩
theorem Kj{c k v:Int}(h:Fit c k v)(hm:v≠4095)(W:World)(he:Env W) :
  Calls Tryz.prog 163 #[.int .u64 (gI c k v)] W λe w'=>e = .returned (.tuple #[.int .u64 (gI c k (v+1)),.bool true])/\∃n,w'=W.drewN n:=by
 have H:=hid (Gh h hm W he)
 clear h hm he
 go_in
 go_wp2_with (go_at_call 220;refine H.out.mono ?_;rintro e w' ⟨rfl,nq,rfl⟩)
 go_ret2
 exact⟨rfl,nq,rfl⟩
theorem Kk{c k v:Int}(h:Fit c k v)(hm:k=0)(W:World)(he:Env W) :
  Calls Tryz.prog 269 #[.int .u64 (gI c k v)] W λe w'=>e = .returned (.tuple #[.int .u64 (gI c k v),.bool false])/\∃n,w'=W.drewN n:=by
 have H:=hid h
 have HE:=hid he
 have hd:(k==(0:Int))=true:=by rw[hm];rfl
 clear he h hm
 go_in
 go_wp2_with (go_at_call 85;refine(jh H.out _ HE.out).mono ?_;rintro e w' ⟨rfl,nq,rfl⟩)
 go_ret2
 exact⟨rfl,nq,rfl⟩
theorem Gj{c k v:Int}(h:Fit c k v)(hm:k≠0)(W:World)(he:Env W) :
  Calls Tryz.prog 269 #[.int .u64 (gI c k v)] W λe w'=>e = .returned (.tuple #[.int .u64 (gI c (k - 1) v),.bool true])/\∃n,w'=W.drewN n:=by
 have H:=hid h
 have HE:=hid he
 have hd:(k==(0:Int))=false:=by simpa using hm
 obtain⟨b0,b1,b2,b3,b4,b5⟩:=h
 have hw:wrap64 (k - 1)=k - 1:=IntWalk.wrap64_in _ zo
 have H0:Hid (0<=k - 1/\k - 1<4096):=by show _/\_;omega
 clear he hm b0 b1 b2 b3 b4 b5
 go_in
 go_wp2_with (go_at_call 85;refine(jh H.out _ HE.out).mono ?_;rintro e w' ⟨rfl,nq,rfl⟩)
 refine(su H.out H0.out.1 H0.out.2 _ (HE.out.drewN nq)).mono ?_
 rintro e w' ⟨rfl,nr,rfl⟩
 go_wp2_with fail
 go_ret2
 exact⟨rfl,nq+nr,rfl⟩
theorem Df{c k v l:Int}(h:Fit c k v)(hm:l<=k)(W:World)(he:Env W) :
  Calls Tryz.prog 197 #[.int .u64 (gI c k v),.int .i64 l] W λe w'=>e = .returned (.tuple #[.int .u64 (gI c k v),.bool false])/\∃n,w'=W.drewN n:=by
 have H:=hid h
 have HE:=hid he
 have hd:decide (k>=l)=true:=by simpa using hm
 clear he h
 go_in
 go_wp2_with (go_at_call 85;refine(jh H.out _ HE.out).mono ?_;rintro e w' ⟨rfl,nq,rfl⟩)
 go_ret2
 exact⟨rfl,nq,rfl⟩
theorem Gk{c k v l:Int}(h:Fit c k v)(hm : ¬l<=k)(hk:k=4095)(W:World)(he:Env W) :
  Calls Tryz.prog 197 #[.int .u64 (gI c k v),.int .i64 l] W λe w'=>e = .returned (.tuple #[.int .u64 (gI c k v),.bool false])/\∃n,w'=W.drewN n:=by
 have H:=hid h
 have HE:=hid he
 have HK:=hid hk
 clear he h hk
 go_in
 go_wp2_with (go_at_call 85;refine(jh H.out _ HE.out).mono ?_;rintro e w' ⟨rfl,nq,rfl⟩)
 refine(Kh H.out HK.out _ (HE.out.drewN nq)).mono ?_
 rintro e w' ⟨rfl,nr,rfl⟩
 go_wp2_with fail
 go_ret2
 exact⟨rfl,nq+nr,rfl⟩
theorem Gl{c k v l:Int}(h:Fit c k v)(hm : ¬l<=k)(hk:k≠4095)(W:World)(he:Env W) :
  Calls Tryz.prog 197 #[.int .u64 (gI c k v),.int .i64 l] W λe w'=>e = .returned (.tuple #[.int .u64 (gI c (k+1) v),.bool true])/\∃n,w'=W.drewN n:=by
 have H:=hid h
 have HE:=hid he
 have HK:=hid hk
 clear he h hk
 go_in
 go_wp2_with (go_at_call 85;refine(jh H.out _ HE.out).mono ?_;rintro e w' ⟨rfl,nq,rfl⟩)
 refine(Gg H.out HK.out _ (HE.out.drewN nq)).mono ?_
 rintro e w' ⟨rfl,nr,rfl⟩
 go_wp2_with fail
 go_ret2
 exact⟨rfl,nq+nr,rfl⟩
def later(c n:Int):Int:=if n<=0 then c else if 1099511627775<c+n then 1099511627775 else c+n
theorem rf{c k v n:Int}(h:Fit c k v):0<=later c n/\later c n<1099511627776/\c<=later c n:=by
 obtain⟨_,_,_,_,_,_⟩:=h;unfold later;split
 ·omega
 ·split <;> omega
theorem QI{c k v x:Int}(m:Int)(h:Fit c k v)(hx:x=m)(h0:0<=m)(h1:m<1099511627776)(W:World)(he:Env W) :
  Calls Tryz.prog 153 #[.int .u64 (gI c k v),.int .i64 0,.int .i64 x] W λe w'=>e = .returned (.int .u64 (gI m k v))/\∃n,w'=W.drewN n:=by
 subst hx;exact tM h h0 h1 W he
theorem Kl{c k v n:Int}(h:Fit c k v)(hn0 : -9223372036854775808<=n)(Sf:n<=9223372036854775807)(W:World)(he:Env W) :
  Calls Tryz.prog 110 #[.int .u64 (gI c k v),.int .i64 n] W λe w'=>e = .returned (.int .u64 (gI (later c n) k v))/\∃n,w'=W.drewN n:=by
 have H:=hid h
 have HE:=hid he
 have x2:=he.c2
 have HL:=hid (rf (n:=n) h)
 obtain⟨b0,b1,b2,b3,b4,b5⟩:=h
 have hw:wrap64 (1099511627775 - c)=1099511627775 - c:=IntWalk.wrap64_in _ zo
 clear he
 go_in
 go_wp2_with (go_at_call 85;refine(sn H.out _ HE.out).mono ?_;rintro e w' ⟨rfl,nq,rfl⟩)
 all_goals go_at_call 153
 all_goals refine(QI (later c n) H.out ?_ HL.out.1 HL.out.2.1 _ (HE.out.drewN nq)).mono ?_
 all_goals first | (show _=later c n;unfold later;split <;> (try split) <;> omega) | skip
 all_goals rintro e w' ⟨rfl,nr,rfl⟩
 all_goals go_wp2_with fail
 all_goals go_ret
 all_goals exact⟨rfl,nq+nr,rfl⟩
end Ga
end Go.Proofs.YtbhnbcadgmagpaaGreatDoor
namespace Go.Proofs.YtbhnbcadgmagpaaGreatDoor
open Go.ChangeShapes Go.WideShapes Go.ChangeAt Go.RowKit Go.aN
namespace Ga
open dJ (gI Fit)
abbrev jI(v k c:Int):Array Value:=#[.int .i64 v,.int .i64 k,.int .i64 c]
section
variable {w w':World}{g:Nat}{v k c:Int}{t:TypeId}
theorem fN(H:aF w g (jI v k c) t):w.cell? ⟨g,0,none⟩=some (.int .i64 v)/\w.cell? ⟨g,1,none⟩=some (.int .i64 k)/\w.cell? ⟨g,2,none⟩=some (.int .i64 c):=by
 refine⟨?_,?_,?_⟩ <;> exact H.cell _ _ rfl
abbrev uu(w:World)(g:Nat)(v k c:Int):World:=((w.setCell ⟨g,0,none⟩ (.int .i64 v)).setCell ⟨g,1,none⟩ (.int .i64 k)).setCell ⟨g,2,none⟩ (.int .i64 c)
theorem uv(H:aF w g (jI v k c) t)(v' k' c':Int):aF (uu w g v' k' c') g (jI v' k' c') t:=by
 have h0:=H.set' 0 (.int .i64 v') (cs':=jI v' k c) rfl;have h1:=h0.set' 1 (.int .i64 k') (cs':=jI v' k' c) rfl;exact h1.set' 2 (.int .i64 c') rfl
theorem lD{B:Nat}{w0:World}(hb:Below B w0 w)(hg:B<=g)(a b d:Int):Below B w0 (uu w g a b d) :=
 ((hb.setCell (p:=⟨g,0,none⟩) hg _).setCell (p:=⟨g,1,none⟩) hg _).setCell (p:=⟨g,2,none⟩) hg _
end
theorem e_{c k v:Int}(h:Fit c k v)(W:World)(he:Env W) :
  Calls Tryz.prog 46 #[.int .u64 (gI c k v)] W λe w'=>e = .returned (.agg (jI v k c))/\Below W.heap.size W w':=by
 have H:=Lib.hid h
 have HE:=Lib.hid (he.alloc (.cells (jI 0 0 0) 45))
 have HX:=Lib.hid (aF.box W (jI 0 0 0) 45)
 have HB:=Lib.hid ((Below.refl _ W).alloc zl (.cells (jI 0 0 0) 45))
 clear he h
 go_in
 go_wp2_with fail
 refine(pH H.out _ HE.out).mono ?_
 rintro e w' ⟨rfl,n1,rfl⟩
 go_wp2_with fail
 refine(jh H.out _ (HE.out.drewN n1)).mono ?_
 rintro e w' ⟨rfl,n2,rfl⟩
 go_wp2_with fail
 refine(sn H.out _ (HE.out.drewN (n1+n2))).mono ?_
 rintro e w' ⟨rfl,n3,rfl⟩
 have f0:=(HX.out.drewN (n1+n2+n3)).frozen 0
 have f1:=(HX.out.drewN (n1+n2+n3)).frozen 1
 have f2:=(HX.out.drewN (n1+n2+n3)).frozen 2
 obtain⟨y0,y1,y2⟩:=fN (HX.out.drewN (n1+n2+n3))
 go_wp2_with fail
 have HR:=uv (HX.out.drewN (n1+n2+n3)) v k c
 obtain⟨r0,r1,r2⟩:=fN HR
 exact bodyPost_ret (v:=.agg (jI v k c)) (by simp[results,Tryz.results46,go_sem,r0,r1,r2]) rfl ⟨rfl,lD (HB.out.lW _) zs _ _ _⟩
def St(c k v:Int)(j:Nat)(x:Int):Prop:=j=0/\x=gI 0 0 0\/j=1/\(0<=c/\c<1099511627776)/\x=gI c 0 0\/j=2/\(0<=c/\c<1099511627776)/\(0<=k/\k<4096)/\x=gI c k 0\/j=3/\(0<=c/\c<1099511627776)/\(0<=k/\k<4096)/\(0<=v/\v<4096)/\x=gI c k v
end Ga
end Go.Proofs.YtbhnbcadgmagpaaGreatDoor
namespace Go.Proofs.YtbhnbcadgmagpaaGreatDoor
open Go.ChangeShapes Go.WideShapes Go.ChangeAt Go.RowKit Go.aN
namespace Ga
open dJ (gI Fit)
theorem dV{P:Program}{f:FuncId}{args:Array Value}{w:World}{v:Value}(h:Calls P f args w λe w'=>e = .returned v/\∃n,w'=w.drewN n):Calls P f args w λe w'=>e = .returned v/\Below w.heap.size w w' :=
 h.mono λ_ _ ⟨a,n,b⟩=>⟨a,b▸(Below.refl _ w).lW n⟩
structure Step(c k v:Int)(ok:Bool)(c' k' v':Int)(x:Prop):Prop where
 fit:Fit c' k' v'
 no:ok=false->c'=c/\k'=k/\v'=v/\¬x
 yes:ok=true->x
abbrev xq(ok:Bool)(c k v:Int):Value:=.tuple #[.int .u64 (gI c k v),.bool ok]
def EN(k l:Int)(ok:Bool)(k':Int):Prop:=ok=true/\k'=k+1/\¬l<=k/\k≠4095\/ok=false/\k'=k/\(l<=k\/k=4095)
def LV(k:Int)(ok:Bool)(k':Int):Prop:=ok=true/\k'=k - 1/\k≠0\/ok=false/\k'=k/\k=0
def SW(v:Int)(ok:Bool)(v':Int):Prop:=ok=true/\v'=v+1/\v≠4095\/ok=false/\v'=v/\v=4095
section
variable {c k v l:Int}{ok:Bool}{x:Int}
theorem xu(h:Fit c k v)(hs:EN k l ok x)(W:World)(he:Env W) :
  Calls Tryz.prog 197 #[.int .u64 (gI c k v),.int .i64 l] W λe w'=>e = .returned (xq ok c x v)/\Below W.heap.size W w':=by
 rcases hs with⟨rfl,rfl,h1,h2⟩ | ⟨rfl,rfl,h1⟩
 ·exact dV (Gl h h1 h2 W he)
 ·by_cases h3:l<=x
  ·exact dV (Df h h3 W he)
  ·exact dV (Gk h h3 zo W he)
theorem aaI(h:Fit c k v)(hs:LV k ok x)(W:World)(he:Env W) :
  Calls Tryz.prog 269 #[.int .u64 (gI c k v)] W λe w'=>e = .returned (xq ok c x v)/\Below W.heap.size W w':=by
 rcases hs with⟨rfl,rfl,h1⟩ | ⟨rfl,rfl,h1⟩
 ·exact dV (Gj h h1 W he)
 ·exact dV (Kk h h1 W he)
theorem jm(h:Fit c k v)(hs:SW v ok x)(W:World)(he:Env W) :
  Calls Tryz.prog 163 #[.int .u64 (gI c k v)] W λe w'=>e = .returned (xq ok c k x)/\Below W.heap.size W w':=by
 rcases hs with⟨rfl,rfl,h1⟩ | ⟨rfl,rfl,h1⟩
 ·exact dV (Kj h h1 W he)
 ·exact dV (NS h h1 W he)
end
end Ga
end Go.Proofs.YtbhnbcadgmagpaaGreatDoor
namespace Go.Proofs.YtbhnbcadgmagpaaGreatDoor
open Go.ChangeShapes Go.WideShapes Go.ChangeAt Go.RowKit Go.aN Go.Lib
namespace Ga
theorem Es:(Tryz.prog.globals[0]?).map (·.type)=some 192:=zk
theorem sc:Tryz.prog.cellsOf 191=3:=zk
theorem vJ:Tryz.prog.cellsOf 3=1:=zk
theorem f_{w:World}{fuel:Nat}{cs:List Value}{a b c:Int}{p:List MemPlace}
  (h:DataW.trod (λ_=>()) Tryz.prog w 0 (λ_=>true) false fuel 191 cs=some (.agg [.lit (.int .i64 a),.lit (.int .i64 b),.lit (.int .i64 c)],p)):cs[0]? = some (.int .i64 a)/\cs[1]? = some (.int .i64 b)/\cs[2]? = some (.int .i64 c):=by
 obtain⟨xs,n,_,hx,hl,_,hall⟩:=DataW.trod_struct Tryz.underlying191 h
 have hxs:xs.map (·.1)=[.lit (.int .i64 a),.lit (.int .i64 b),.lit (.int .i64 c)]:=by
  have:=congrArg Prod.fst hx;simpa using this.symm
 match xs,hxs with
 | [x0,x1,x2],hxs =>
  simp only[List.map_cons,List.map_nil,List.cons.injEq,and_true]at hxs
  have h0:DataW.trod (λ_=>()) Tryz.prog w 0 (λ_=>true) false n 3 ((cs.drop 0).take (Tryz.prog.cellsOf 3))=some x0:=hall 0 _ rfl
  have h1:DataW.trod (λ_=>()) Tryz.prog w 0 (λ_=>true) false n 3 ((cs.drop 1).take (Tryz.prog.cellsOf 3))=some x1:=hall 1 _ rfl
  have h2:DataW.trod (λ_=>()) Tryz.prog w 0 (λ_=>true) false n 3 ((cs.drop 2).take (Tryz.prog.cellsOf 3))=some x2:=hall 2 _ rfl
  rw[vJ]at h0 h1 h2
  obtain⟨z0,e0,f0,_⟩:=DataW.trod_int Tryz.underlying3 h0
  obtain⟨z1,e1,f1,_⟩:=DataW.trod_int Tryz.underlying3 h1
  obtain⟨z2,e2,f2,_⟩:=DataW.trod_int Tryz.underlying3 h2
  subst f0;subst f1;subst f2
  simp only[DataW.lit.injEq,Lit.int.injEq,true_and]at hxs
  obtain⟨rfl,rfl,rfl⟩:=hxs
  have e0:=congrArg (·[0]?) e0
  have e1:=congrArg (·[0]?) e1
  have e2:=congrArg (·[0]?) e2
  simp only[List.getElem?_take,List.getElem?_drop]at e0 e1 e2
  exact⟨by simpa using e0,by simpa using e1,by simpa using e2⟩
theorem iO{W:World}(hL:laidMetH Tryz.prog [("mantlet/gate.parts",Rows.laid_mantlet_gate_parts)] W):Env W:=by
 rw[MakeChecks.laidMetH_plain _ _ _ zk]at hL;obtain⟨ps,⟨g,t,cs,fuel,p,q,hg,hty,hvar,hd,_,_⟩,_,_⟩:=hL;obtain rfl:=Option.some.inj (ur.symm.trans hg);obtain rfl:=Option.some.inj (Es.symm.trans hty)
 cases fuel with
 | zero=>simp[DataW.trod]at hd
 | succ fuel =>
  unfold Rows.laid_mantlet_gate_parts at hd
  simp only[DataW.trod,Tryz.underlying192,sc]at hd
  split at hd
  ·rename_i hlen;obtain⟨xs,hm,hx⟩:=Option.map_eq_some_iff.1 hd
   have hxs:xs.map (·.1)=[.agg [.lit (.int .i64 0),.lit (.int .i64 40),.lit (.int .i64 1099511627775)],.agg [.lit (.int .i64 40),.lit (.int .i64 12),.lit (.int .i64 4095)],.agg [.lit (.int .i64 52),.lit (.int .i64 12),.lit (.int .i64 4095)]]:=by
    have:=congrArg Prod.fst hx;simpa using this
   match xs,hxs with
   | [(d0,q0),(d1,q1),(d2,q2)],hxs =>
    simp only[List.map_cons,List.map_nil,List.cons.injEq,and_true]at hxs
    obtain⟨rfl,rfl,rfl⟩:=hxs
    obtain⟨b0,hb0,Lt⟩:=mapM_at hm 0 0 zs
    obtain⟨b1,aK,I5⟩:=mapM_at hm 1 1 zs
    obtain⟨b2,aZ,Ob⟩:=mapM_at hm 2 2 zs
    simp at hb0 aK aZ
    subst hb0;subst aK;subst aZ
    obtain⟨x0,x1,x2⟩:=f_ Lt
    obtain⟨x3,x4,x5⟩:=f_ I5
    obtain⟨x6,x7,x8⟩:=f_ Ob
    simp only[List.getElem?_take,List.getElem?_drop]at x0 x1 x2 x3 x4 x5 x6 x7 x8
    have c:∀i v,cs.toList[i]? = some v->W.cell? ⟨0,i,none⟩=some v:=λi v h=>by
     rw[World.var?_cell ur hvar i,← Array.getElem?_toList];exact h
    exact⟨c 0 _ (by simpa using x0),c 1 _ (by simpa using x1),c 2 _ (by simpa using x2),c 3 _ (by simpa using x3),c 4 _ (by simpa using x4),c 5 _ (by simpa using x5),c 6 _ (by simpa using x6),c 7 _ (by simpa using x7),c 8 _ (by simpa using x8)⟩
  ·cases hd
end Ga
end Go.Proofs.YtbhnbcadgmagpaaGreatDoor
