import Derived.Test.YtbhnbcadgmagpaaGreatDoorBig
import Derived.Test.YtbhnbcadgmagpaaGreatDoorJ5
import Derived.Test.YtbhnbcadgmagpaaGreatDoorJ1
import Derived.Test.YtbhnbcadgmagpaaGreatDoorRows
import Derived.Test.YtbhnbcadgmagpaaGreatDoorJ3
set_option linter.unusedVariables false
set_option linter.unusedSimpArgs false
set_option maxHeartbeats 4000000
set_option maxRecDepth 100000
namespace eL
open qL
def gI(c k v:Int):Int:=c+k*1099511627776+v*1152921504606846976
structure Fit(c k v:Int):Prop where
 c0:0<=c
 c1:c<1099511627776
 k0:0<=k
 k1:k<1048576
 v0:0<=v
 v1:v<16
theorem Fit.of(c k v:Int)(h:0<=c/\c<1099511627776/\0<=k/\k<1048576/\0<=v/\v<16):Fit c k v:=⟨h.1,h.2.1,h.2.2.1,h.2.2.2.1,h.2.2.2.2.1,h.2.2.2.2.2⟩
theorem kp{c k v:Int}(h:Fit c k v):0<=gI c k v:=by
 obtain⟨_,_,_,_,_,_⟩:=h;unfold gI;omega
theorem kq{c k v:Int}(h:Fit c k v):gI c k v<18446744073709551616:=by
 obtain⟨_,_,_,_,_,_⟩:=h;unfold gI;omega
theorem sn{c k v:Int}(h:Fit c k v):((pG (gI c k v).toNat (0:Int).toNat (40:Int).toNat:Nat):Int)=c:=by
 obtain⟨_,_,_,_,_,_⟩:=h;unfold gI pG;show(((c+k*1099511627776+v*1152921504606846976).toNat / 1 % 1099511627776:Nat):Int)=c;omega
theorem jh{c k v:Int}(h:Fit c k v):((pG (gI c k v).toNat (40:Int).toNat (20:Int).toNat:Nat):Int)=k:=by
 obtain⟨_,_,_,_,_,_⟩:=h;unfold gI pG;show(((c+k*1099511627776+v*1152921504606846976).toNat / 1099511627776 % 1048576:Nat):Int)=k;omega
theorem pH{c k v:Int}(h:Fit c k v):((pG (gI c k v).toNat (60:Int).toNat (4:Int).toNat:Nat):Int)=v:=by
 obtain⟨_,_,_,_,_,_⟩:=h;unfold gI pG;show(((c+k*1099511627776+v*1152921504606846976).toNat / 1152921504606846976 % 16:Nat):Int)=v;omega
theorem tM{c k v n:Int}(h:Fit c k v)(h0:0<=n)(h1:n<1099511627776):((me (gI c k v).toNat (0:Int).toNat (40:Int).toNat n.toNat:Nat):Int)=gI n k v:=by
 obtain⟨_,_,_,_,_,_⟩:=h;unfold gI me;show(((c+k*1099511627776+v*1152921504606846976).toNat % 1+n.toNat % 1099511627776*1+(c+k*1099511627776+v*1152921504606846976).toNat / 1099511627776*1099511627776:Nat):Int)=_;omega
theorem su{c k v n:Int}(h:Fit c k v)(h0:0<=n)(h1:n<1048576):((me (gI c k v).toNat (40:Int).toNat (20:Int).toNat n.toNat:Nat):Int)=gI c n v:=by
 obtain⟨_,_,_,_,_,_⟩:=h;unfold gI me;show(((c+k*1099511627776+v*1152921504606846976).toNat % 1099511627776+n.toNat % 1048576*1099511627776+(c+k*1099511627776+v*1152921504606846976).toNat / 1152921504606846976*1152921504606846976:Nat):Int)=_;omega
theorem sy{c k v n:Int}(h:Fit c k v)(h0:0<=n):((me (gI c k v).toNat (60:Int).toNat (4:Int).toNat n.toNat:Nat):Int)=gI c k (n % 16):=by
 obtain⟨_,_,_,_,_,_⟩:=h;unfold gI me;show(((c+k*1099511627776+v*1152921504606846976).toNat % 1152921504606846976+n.toNat % 16*1152921504606846976+(c+k*1099511627776+v*1152921504606846976).toNat / 18446744073709551616*18446744073709551616:Nat):Int)=_;omega
end eL
namespace Go.Proofs.YtbhnbcadgmagpaaGreatDoor
open Go.Lib (hid)
open Go.ChangeShapes Go.WideShapes Go.ChangeAt Go.RowKit Go.aN
namespace Fl
open eL (gI Fit)
theorem ur:Tryz.prog.globalNamed "mantlet/flow.parts" = some 2:=zk
structure Env(w:World):Prop where
 c0:w.cell? ⟨2,0,none⟩=some (.int .i64 0)
 c1:w.cell? ⟨2,1,none⟩=some (.int .i64 40)
 c2:w.cell? ⟨2,2,none⟩=some (.int .i64 1099511627775)
 c3:w.cell? ⟨2,3,none⟩=some (.int .i64 40)
 c4:w.cell? ⟨2,4,none⟩=some (.int .i64 20)
 c5:w.cell? ⟨2,5,none⟩=some (.int .i64 1048575)
 c6:w.cell? ⟨2,6,none⟩=some (.int .i64 60)
 c7:w.cell? ⟨2,7,none⟩=some (.int .i64 4)
 c8:w.cell? ⟨2,8,none⟩=some (.int .i64 15)
theorem Env.lt{w:World}(h:Env w):2<w.heap.size:=World.block_lt_of_cell? _ _ h.c0
theorem Env.below{w w':World}(h:Env w){B:Nat}(hb:Below B w w')(hB:w.heap.size<=B):Env w':=by
 have hlt:=h.lt;have k:∀i,w'.cell? ⟨2,i,none⟩=w.cell? ⟨2,i,none⟩:=λi=>hb.cell (Nat.lt_of_lt_of_le hlt hB);exact⟨(k 0).trans h.c0,(k 1).trans h.c1,(k 2).trans h.c2,(k 3).trans h.c3,(k 4).trans h.c4,(k 5).trans h.c5,(k 6).trans h.c6,(k 7).trans h.c7,(k 8).trans h.c8⟩
theorem Env.alloc{w:World}(h:Env w)(o:Obj):Env (w.alloc o):=h.below ((Below.refl _ _).alloc zl o) zl
theorem Env.drewN{w:World}(h:Env w)(n:Nat):Env (w.drewN n):=⟨h.c0,h.c1,h.c2,h.c3,h.c4,h.c5,h.c6,h.c7,h.c8⟩
theorem C9{c k v:Int}(h:Fit c k v)(W:World) :
  Calls Tryz.prog 124 #[.int .u64 (gI c k v),.int .i64 0,.int .i64 40] W λe w'=>e = .returned (.int .u64 c)/\∃n,w'=W.drewN n:=by
 have:=nK.nL (gI c k v) 0 40 (eL.kp h) (eL.kq h) zo zo zo W
 unfold nK.yD at this
 rwa [eL.sn h]at this
theorem C_{c k v:Int}(h:Fit c k v)(W:World) :
  Calls Tryz.prog 124 #[.int .u64 (gI c k v),.int .i64 40,.int .i64 20] W λe w'=>e = .returned (.int .u64 k)/\∃n,w'=W.drewN n:=by
 have:=nK.nL (gI c k v) 40 20 (eL.kp h) (eL.kq h) zo zo zo W
 unfold nK.yD at this
 rwa [eL.jh h]at this
theorem Da{c k v:Int}(h:Fit c k v)(W:World) :
  Calls Tryz.prog 124 #[.int .u64 (gI c k v),.int .i64 60,.int .i64 4] W λe w'=>e = .returned (.int .u64 v)/\∃n,w'=W.drewN n:=by
 have:=nK.nL (gI c k v) 60 4 (eL.kp h) (eL.kq h) zo zo zo W
 unfold nK.yD at this
 rwa [eL.pH h]at this
theorem Db{c k v n:Int}(h:Fit c k v)(h0:0<=n)(h1:n<1099511627776)(W:World) :
  Calls Tryz.prog 207 #[.int .u64 (gI c k v),.int .i64 0,.int .i64 40,.int .u64 n] W λe w'=>e = .returned (.int .u64 (gI n k v))/\∃n,w'=W.drewN n:=by
 have:=nK.jR (gI c k v) 0 40 n (eL.kp h) (eL.kq h) h0 zo zo zo zo W
 unfold nK.yE at this
 rwa [eL.tM h h0 h1]at this
theorem Dc{c k v n:Int}(h:Fit c k v)(h0:0<=n)(h1:n<1048576)(W:World) :
  Calls Tryz.prog 207 #[.int .u64 (gI c k v),.int .i64 40,.int .i64 20,.int .u64 n] W λe w'=>e = .returned (.int .u64 (gI c n v))/\∃n,w'=W.drewN n:=by
 have:=nK.jR (gI c k v) 40 20 n (eL.kp h) (eL.kq h) h0 zo zo zo zo W
 unfold nK.yE at this
 rwa [eL.su h h0 h1]at this
theorem Dd{c k v n:Int}(h:Fit c k v)(h0:0<=n)(h1:n<18446744073709551616)(W:World) :
  Calls Tryz.prog 207 #[.int .u64 (gI c k v),.int .i64 60,.int .i64 4,.int .u64 n] W λe w'=>e = .returned (.int .u64 (gI c k (n % 16)))/\∃n,w'=W.drewN n:=by
 have:=nK.jR (gI c k v) 60 4 n (eL.kp h) (eL.kq h) h0 zo zo zo zo W
 unfold nK.yE at this
 rwa [eL.sy h h0]at this
theorem sn{c k v:Int}(h:Fit c k v)(W:World)(he:Env W) :
  Calls Tryz.prog 253 #[.int .u64 (gI c k v),.int .i64 0] W λe w'=>e = .returned (.int .i64 c)/\∃n,w'=W.drewN n:=by
 have H:=hid h
 obtain⟨b0,b1,b2,b3,b4,b5⟩:=h
 have x0:=he.c0
 have x1:=he.c1
 have hw:wrap64 c=c:=IntWalk.wrap64_in _ zo
 clear he b0 b1 b2 b3 b4 b5
 go_in
 go_wp2_with fail
 refine aD 9 zk zk W.drew rfl ?_
 simp only[List.take_succ_cons,List.take_zero,List.drop_succ_cons,List.drop_zero]
 repeat still_step
 refine wpStill_nil ?_
 go_wp2_with (go_at_call 124;refine(C9 H.out _).mono ?_;rintro e w' ⟨rfl,nq,rfl⟩)
 go_ret
 refine⟨?_,1+nq,rfl⟩
 show Ending.returned (.int .i64 (wrap64 c))=_
 rw[hw]
theorem jh{c k v:Int}(h:Fit c k v)(W:World)(he:Env W) :
  Calls Tryz.prog 253 #[.int .u64 (gI c k v),.int .i64 1] W λe w'=>e = .returned (.int .i64 k)/\∃n,w'=W.drewN n:=by
 have H:=hid h
 obtain⟨b0,b1,b2,b3,b4,b5⟩:=h
 have x0:=he.c3
 have x1:=he.c4
 have hw:wrap64 k=k:=IntWalk.wrap64_in _ zo
 clear he b0 b1 b2 b3 b4 b5
 go_in
 go_wp2_with fail
 refine aD 9 zk zk W.drew rfl ?_
 simp only[List.take_succ_cons,List.take_zero,List.drop_succ_cons,List.drop_zero]
 repeat still_step
 refine wpStill_nil ?_
 go_wp2_with (go_at_call 124;refine(C_ H.out _).mono ?_;rintro e w' ⟨rfl,nq,rfl⟩)
 go_ret
 refine⟨?_,1+nq,rfl⟩
 show Ending.returned (.int .i64 (wrap64 k))=_
 rw[hw]
theorem pH{c k v:Int}(h:Fit c k v)(W:World)(he:Env W) :
  Calls Tryz.prog 253 #[.int .u64 (gI c k v),.int .i64 2] W λe w'=>e = .returned (.int .i64 v)/\∃n,w'=W.drewN n:=by
 have H:=hid h
 obtain⟨b0,b1,b2,b3,b4,b5⟩:=h
 have x0:=he.c6
 have x1:=he.c7
 have hw:wrap64 v=v:=IntWalk.wrap64_in _ zo
 clear he b0 b1 b2 b3 b4 b5
 go_in
 go_wp2_with fail
 refine aD 9 zk zk W.drew rfl ?_
 simp only[List.take_succ_cons,List.take_zero,List.drop_succ_cons,List.drop_zero]
 repeat still_step
 refine wpStill_nil ?_
 go_wp2_with (go_at_call 124;refine(Da H.out _).mono ?_;rintro e w' ⟨rfl,nq,rfl⟩)
 go_ret
 refine⟨?_,1+nq,rfl⟩
 show Ending.returned (.int .i64 (wrap64 v))=_
 rw[hw]
theorem tM{c k v n:Int}(h:Fit c k v)(h0:0<=n)(h1:n<1099511627776)(W:World)(he:Env W) :
  Calls Tryz.prog 222 #[.int .u64 (gI c k v),.int .i64 0,.int .i64 n] W λe w'=>e = .returned (.int .u64 (gI n k v))/\∃n,w'=W.drewN n:=by
 have H:=hid h
 have H0:=hid h0
 have H1:=hid h1
 have x0:=he.c0
 have x1:=he.c1
 have hw:IntKind.u64.wrap n=n:=by rw[IntKind.wrap_u64];omega
 clear he h
 go_in
 go_wp2_with fail
 refine aD 11 zk zk W.drew rfl ?_
 simp only[List.take_succ_cons,List.take_zero,List.drop_succ_cons,List.drop_zero]
 repeat still_step
 refine wpStill_nil ?_
 go_wp2_with (go_at_call 207;refine(Db H.out H0.out H1.out _).mono ?_;rintro e w' ⟨rfl,nq,rfl⟩)
 go_ret
 exact⟨rfl,1+nq,rfl⟩
theorem su{c k v n:Int}(h:Fit c k v)(h0:0<=n)(h1:n<1048576)(W:World)(he:Env W) :
  Calls Tryz.prog 222 #[.int .u64 (gI c k v),.int .i64 1,.int .i64 n] W λe w'=>e = .returned (.int .u64 (gI c n v))/\∃n,w'=W.drewN n:=by
 have H:=hid h
 have H0:=hid h0
 have H1:=hid h1
 have x0:=he.c3
 have x1:=he.c4
 have hw:IntKind.u64.wrap n=n:=by rw[IntKind.wrap_u64];omega
 clear he h
 go_in
 go_wp2_with fail
 refine aD 11 zk zk W.drew rfl ?_
 simp only[List.take_succ_cons,List.take_zero,List.drop_succ_cons,List.drop_zero]
 repeat still_step
 refine wpStill_nil ?_
 go_wp2_with (go_at_call 207;refine(Dc H.out H0.out H1.out _).mono ?_;rintro e w' ⟨rfl,nq,rfl⟩)
 go_ret
 exact⟨rfl,1+nq,rfl⟩
theorem sy{c k v n:Int}(h:Fit c k v)(W:World)(he:Env W) :
  Calls Tryz.prog 222 #[.int .u64 (gI c k v),.int .i64 2,.int .i64 n] W λe w'=>e = .returned (.int .u64 (gI c k (n % 16)))/\∃n,w'=W.drewN n:=by
 have H:=hid h
 have hb:0<=IntKind.u64.wrap n/\IntKind.u64.wrap n<18446744073709551616:=by rw[IntKind.wrap_u64];omega
 have hq:IntKind.u64.wrap n % 16=n % 16:=by rw[IntKind.wrap_u64];omega
 have HC:=hid (λW=>Dd (n:=IntKind.u64.wrap n) h hb.1 hb.2 W)
 rw[hq]at HC
 have x0:=he.c6
 have x1:=he.c7
 clear he h hb hq
 go_in
 go_wp2_with fail
 refine aD 11 zk zk W.drew rfl ?_
 simp only[List.take_succ_cons,List.take_zero,List.drop_succ_cons,List.drop_zero]
 repeat still_step
 refine wpStill_nil ?_
 go_wp2_with (go_at_call 207;refine(HC.out _).mono ?_;rintro e w' ⟨rfl,nq,rfl⟩)
 go_ret
 exact⟨rfl,1+nq,rfl⟩
end Fl
end Go.Proofs.YtbhnbcadgmagpaaGreatDoor
namespace Go.Proofs.YtbhnbcadgmagpaaGreatDoor
open Go.ChangeShapes Go.WideShapes Go.ChangeAt Go.RowKit Go.aN
namespace Fl
open eL (gI Fit)
abbrev jI(v k c:Int):Array Value:=#[.int .i64 v,.int .i64 k,.int .i64 c]
section
variable {w w':World}{g:Nat}{v k c:Int}{t:TypeId}
theorem fN(H:aF w g (jI v k c) t):w.cell? ⟨g,0,none⟩=some (.int .i64 v)/\w.cell? ⟨g,1,none⟩=some (.int .i64 k)/\w.cell? ⟨g,2,none⟩=some (.int .i64 c):=by
 refine⟨?_,?_,?_⟩ <;> exact H.cell _ _ rfl
abbrev uu(w:World)(g:Nat)(v k c:Int):World:=((w.setCell ⟨g,0,none⟩ (.int .i64 v)).setCell ⟨g,1,none⟩ (.int .i64 k)).setCell ⟨g,2,none⟩ (.int .i64 c)
theorem uv(H:aF w g (jI v k c) t)(v' k' c':Int):aF (uu w g v' k' c') g (jI v' k' c') t:=by
 have h0:=H.set' 0 (.int .i64 v') (cs':=jI v' k c) rfl;have h1:=h0.set' 1 (.int .i64 k') (cs':=jI v' k' c) rfl;exact h1.set' 2 (.int .i64 c') rfl
theorem lD{B:Nat}{w0:World}(hb:Below B w0 w)(hg:B<=g)(a b d:Int):Below B w0 (uu w g a b d) :=
 ((hb.setCell (p:=⟨g,0,none⟩) hg _).setCell (p:=⟨g,1,none⟩) hg _).setCell (p:=⟨g,2,none⟩) hg _
end
theorem e_{c k v:Int}(h:Fit c k v)(W:World)(he:Env W) :
  Calls Tryz.prog 205 #[.int .u64 (gI c k v)] W λe w'=>e = .returned (.agg (jI v k c))/\Below W.heap.size W w':=by
 have H:=Lib.hid h
 have HE:=Lib.hid (he.alloc (.cells (jI 0 0 0) 263))
 have HX:=Lib.hid (aF.box W (jI 0 0 0) 263)
 have HB:=Lib.hid ((Below.refl _ W).alloc zl (.cells (jI 0 0 0) 263))
 clear he h
 go_in
 go_wp2_with fail
 refine(pH H.out _ HE.out).mono ?_
 rintro e w' ⟨rfl,n1,rfl⟩
 go_wp2_with fail
 refine(jh H.out _ (HE.out.drewN n1)).mono ?_
 rintro e w' ⟨rfl,n2,rfl⟩
 go_wp2_with fail
 refine(sn H.out _ (HE.out.drewN (n1+n2))).mono ?_
 rintro e w' ⟨rfl,n3,rfl⟩
 have f0:=(HX.out.drewN (n1+n2+n3)).frozen 0
 have f1:=(HX.out.drewN (n1+n2+n3)).frozen 1
 have f2:=(HX.out.drewN (n1+n2+n3)).frozen 2
 obtain⟨y0,y1,y2⟩:=fN (HX.out.drewN (n1+n2+n3))
 go_wp2_with fail
 have HR:=uv (HX.out.drewN (n1+n2+n3)) v k c
 obtain⟨r0,r1,r2⟩:=fN HR
 exact bodyPost_ret (v:=.agg (jI v k c)) (by simp[results,Tryz.results205,go_sem,r0,r1,r2]) rfl ⟨rfl,lD (HB.out.lW _) zs _ _ _⟩
def St(c k v:Int)(j:Nat)(x:Int):Prop:=j=0/\x=gI 0 0 0\/j=1/\(0<=c/\c<1099511627776)/\x=gI c 0 0\/j=2/\(0<=c/\c<1099511627776)/\(0<=k/\k<1048576)/\x=gI c k 0\/j=3/\(0<=c/\c<1099511627776)/\(0<=k/\k<1048576)/\(0<=v/\v<16)/\x=gI c k v
end Fl
end Go.Proofs.YtbhnbcadgmagpaaGreatDoor
namespace Go.Proofs.YtbhnbcadgmagpaaGreatDoor
open Go.Lib (hid)
open Go.ChangeShapes Go.WideShapes Go.ChangeAt Go.RowKit Go.aN
namespace Fl
open eL (gI Fit)
theorem Kb(W:World)(he:Env W) :
  Calls Tryz.prog 169 #[] W λe w'=>e = .returned (.int .u64 (gI 0 0 15))/\∃n,w'=W.drewN n:=by
 have H:=hid (sy (c:=0) (k:=0) (v:=0) (n:=15) ⟨by omega,by omega,by omega,by omega,by omega,by omega⟩ W he)
 clear he
 go_in
 go_wp2_with (go_at_call 222;refine H.out.mono ?_;rintro e w' ⟨rfl,nq,rfl⟩)
 go_ret
 exact⟨rfl,nq,rfl⟩
def clip(u:Int):Int:=if u<0 then 0 else if 1099511627775<u then 1099511627775 else u
def up(k:Int):Int:=if k<1048575 then k+1 else 1048575
theorem qi(u:Int):0<=clip u/\clip u<1099511627776:=by unfold clip;split <;> (try split) <;> omega
theorem De{k:Int}(h0:0<=k)(h1:k<1048576):0<=up k/\up k<1048576:=by unfold up;split <;> omega
theorem Kc{c k v:Int}(h:Fit c k v)(s u:Int):Fit (clip u) (up k) (s % 16):=by
 have h1:=qi u;have h2:=De h.k0 h.k1;exact⟨h1.1,h1.2,h2.1,h2.2,by omega,by omega⟩
def QW(W w:World):Prop:=Env w/\∃n,w=W.drewN n
theorem QW.next{W w w':World}(H:QW W w)(hb:∃n,w'=w.drewN n):QW W w':=by
 obtain⟨he,n,rfl⟩:=H;obtain⟨m,rfl⟩:=hb;exact⟨he.drewN m,n+m,by rw[World.drewN_drewN]⟩
theorem QW.drew{W w:World}(H:QW W w):QW W w.drew:=⟨H.1.drewN 1,H.2.elim λn h=>⟨n+1,by rw[h];rfl⟩⟩
theorem QW.start{W:World}(he:Env W):QW W W:=⟨he,0,rfl⟩
theorem mz{c k v:Int}(h:Fit c k v)(s u:Int)(W:World)(he:Env W) :
  Calls Tryz.prog 199 #[.int .u64 (gI c k v),.int .i64 s,.int .i64 u] W λe w'=>e = .returned (.int .u64 (gI (clip u) (up k) (s % 16)))/\∃n,w'=W.drewN n:=by
 have H:=hid h
 have H2:Hid (Fit c k (s % 16)):=⟨h.c0,h.c1,h.k0,h.k1,by omega,by omega⟩
 have HN:=hid (Kc h s u)
 have H3:Hid (Fit c (up k) (s % 16)):=⟨h.c0,h.c1,HN.out.k0,HN.out.k1,by omega,by omega⟩
 have HE:=hid (QW.start he)
 have hk:0<=k/\k<1048576:=⟨h.k0,h.k1⟩
 have hw:wrap64 (k+1)=k+1:=IntWalk.wrap64_in _ zo
 have hup:(if 1048575<IntKind.i64.wrap (k+1)then 1048575 else IntKind.i64.wrap (k+1))=up k:=by
  rw[IntKind.wrap_i64];unfold up;split <;> split <;> omega
 have hcl:(if 1099511627775<(if u<0 then 0 else u)then 1099511627775 else(if u<0 then 0 else u))=clip u:=by unfold clip;split <;> split <;> (try split) <;> omega
 clear he h hw hk
 go_in
 go_wp2_with fail
 refine(sy H.out _ HE.out.1).mono ?_
 rintro e w1 ⟨rfl,hb⟩
 have sX:=hid (HE.out.next hb)
 clear hb
 go_wp2_with fail
 refine wp_region_held_drew (S:=λw'=>QW W w') zk (sX.out.drew) (λhH=>?_)
 refine zr 0 10 hH ?_
 refine zr 1 11 hH ?_
 refine zr 4 14 hH ?_
 refine zr 5 15 hH ?_
 try simp only[zq]
 refine zqt 6 (some 16) ?v5 rfl rfl ?c5 hH ?r5
 case c5=>(intro w' hS;have x0:=hS.1.c5;go_simp;(try with_reducible rfl))
 try simp only[zq]
 refine zrd 2 (λK hK=>?_)
 go_simp
 refine(jh H2.out _ hH.1).mono ?_
 rintro e w8 ⟨rfl,cz⟩
 refine hK.out _ _ (hH.next cz) (λhH=>?_)
 clear hK K
 clear cz
 try simp only[zq]
 refine zr 3 13 hH ?_
 refine zr 7 17 hH ?_
 try simp only[zq]
 refine zrd 8 (λK hK=>?_)
 go_simp
 refine(su H2.out HN.out.k0 HN.out.k1 _ hH.1).mono ?_
 rintro e w9 ⟨rfl,cz⟩
 refine hK.out _ _ (hH.next cz) (λhH=>?_)
 clear hK K
 clear cz
 try simp only[zq]
 refine zr 9 0 hH ?_
 try simp only[zq]
 refine wpAnyH_done zk ?_ _
 have x1:=hH.1.c2
 go_wp2_with fail
 all_goals (
  go_at_call 222
  refine(tM H3.out HN.out.c0 HN.out.c1 _ hH.1).mono ?_
  rintro e w10 ⟨rfl,hb⟩
  have EK:=hid (hH.next hb)
  clear hb hH
  go_wp2_with fail
  go_ret
  exact⟨rfl,EK.out.2⟩)
def kE(c k v t:Int):Bool:=decide (v=0\/v=15\/c<=t\/k=1048575)
theorem Kg{c k v:Int}(h:Fit c k v)(t:Int)(W:World)(he:Env W) :
  Calls Tryz.prog 193 #[.int .u64 (gI c k v),.int .i64 t] W λe w'=>e = .returned (.bool (kE c k v t))/\Below W.heap.size W w':=by
 have H:=hid h
 have HE:=hid he
 clear he h
 by_cases h0:v=0
 ·have d0:(v==(0:Int))=true:=by simpa using h0
  have hb:kE c k v t=true:=by unfold kE;simp[h0]
  clear h0;rw[hb];clear hb;go_in;go_wp2_with fail;refine(e_ H.out _ HE.out).mono ?_;rintro e w1 ⟨rfl,hb⟩;have HB:=hid (hb.alloc hb.size (.cells (jI v k c) 263));obtain⟨x0,x1,x2⟩:=fN (aF.box w1 (jI v k c) 263);clear hb;go_wp2_with fail;go_ret;exact⟨rfl,HB.out⟩
 have d0:(v==(0:Int))=false:=by simpa using h0
 by_cases h1:v=15
 ·have d1:(v==(15:Int))=true:=by simpa using h1
  have hb:kE c k v t=true:=by unfold kE;simp[h1]
  clear h1;rw[hb];clear hb;go_in;go_wp2_with fail;refine(e_ H.out _ HE.out).mono ?_;rintro e w1 ⟨rfl,hb⟩;have HB:=hid (hb.alloc hb.size (.cells (jI v k c) 263));obtain⟨x0,x1,x2⟩:=fN (aF.box w1 (jI v k c) 263);clear hb;go_wp2_with fail;go_ret;exact⟨rfl,HB.out⟩
 have d1:(v==(15:Int))=false:=by simpa using h1
 by_cases h2:c<=t
 ·have d2:(decide (c<=t))=true:=by simpa using h2
  have hb:kE c k v t=true:=by unfold kE;simp[h2]
  clear h2;rw[hb];clear hb;go_in;go_wp2_with fail;refine(e_ H.out _ HE.out).mono ?_;rintro e w1 ⟨rfl,hb⟩;have HB:=hid (hb.alloc hb.size (.cells (jI v k c) 263));obtain⟨x0,x1,x2⟩:=fN (aF.box w1 (jI v k c) 263);clear hb;go_wp2_with fail;go_ret;exact⟨rfl,HB.out⟩
 have d2:(decide (c<=t))=false:=by simpa using h2
 by_cases h3:k=1048575
 ·have d3:(k==(1048575:Int))=true:=by simpa using h3
  have hb:kE c k v t=true:=by unfold kE;simp[h3]
  clear h3;rw[hb];clear hb;go_in;go_wp2_with fail;refine(e_ H.out _ HE.out).mono ?_;rintro e w1 ⟨rfl,hb⟩;have HB:=hid (hb.alloc hb.size (.cells (jI v k c) 263));obtain⟨x0,x1,x2⟩:=fN (aF.box w1 (jI v k c) 263);clear hb;go_wp2_with fail;go_ret;exact⟨rfl,HB.out⟩
 have d3:(k==(1048575:Int))=false:=by simpa using h3
 have hb:kE c k v t=false:=by unfold kE;simp[h0,h1,h2,h3]
 clear h0 h1 h2 h3
 rw[hb]
 clear hb
 go_in
 go_wp2_with fail
 refine(e_ H.out _ HE.out).mono ?_
 rintro e w1 ⟨rfl,hb⟩
 have HB:=hid (hb.alloc hb.size (.cells (jI v k c) 263))
 obtain⟨x0,x1,x2⟩:=fN (aF.box w1 (jI v k c) 263)
 clear hb
 go_wp2_with fail
 go_ret
 exact⟨rfl,HB.out⟩
end Fl
end Go.Proofs.YtbhnbcadgmagpaaGreatDoor
namespace Go.Proofs.YtbhnbcadgmagpaaGreatDoor
open Go.ChangeShapes Go.WideShapes Go.ChangeAt Go.RowKit Go.aN Go.Lib
namespace Fl
theorem Es:(Tryz.prog.globals[2]?).map (·.type)=some 302:=zk
theorem sc:Tryz.prog.cellsOf 301=3:=zk
theorem vJ:Tryz.prog.cellsOf 3=1:=zk
theorem f_{w:World}{fuel:Nat}{cs:List Value}{a b c:Int}{p:List MemPlace}
  (h:DataW.trod (λ_=>()) Tryz.prog w 0 (λ_=>true) false fuel 301 cs=some (.agg [.lit (.int .i64 a),.lit (.int .i64 b),.lit (.int .i64 c)],p)):cs[0]? = some (.int .i64 a)/\cs[1]? = some (.int .i64 b)/\cs[2]? = some (.int .i64 c):=by
 obtain⟨xs,n,_,hx,hl,_,hall⟩:=DataW.trod_struct Tryz.underlying301 h
 have hxs:xs.map (·.1)=[.lit (.int .i64 a),.lit (.int .i64 b),.lit (.int .i64 c)]:=by
  have:=congrArg Prod.fst hx;simpa using this.symm
 match xs,hxs with
 | [x0,x1,x2],hxs =>
  simp only[List.map_cons,List.map_nil,List.cons.injEq,and_true]at hxs
  have h0:DataW.trod (λ_=>()) Tryz.prog w 0 (λ_=>true) false n 3 ((cs.drop 0).take (Tryz.prog.cellsOf 3))=some x0:=hall 0 _ rfl
  have h1:DataW.trod (λ_=>()) Tryz.prog w 0 (λ_=>true) false n 3 ((cs.drop 1).take (Tryz.prog.cellsOf 3))=some x1:=hall 1 _ rfl
  have h2:DataW.trod (λ_=>()) Tryz.prog w 0 (λ_=>true) false n 3 ((cs.drop 2).take (Tryz.prog.cellsOf 3))=some x2:=hall 2 _ rfl
  rw[vJ]at h0 h1 h2
  obtain⟨z0,e0,f0,_⟩:=DataW.trod_int Tryz.underlying3 h0
  obtain⟨z1,e1,f1,_⟩:=DataW.trod_int Tryz.underlying3 h1
  obtain⟨z2,e2,f2,_⟩:=DataW.trod_int Tryz.underlying3 h2
  subst f0;subst f1;subst f2
  simp only[DataW.lit.injEq,Lit.int.injEq,true_and]at hxs
  obtain⟨rfl,rfl,rfl⟩:=hxs
  have e0:=congrArg (·[0]?) e0
  have e1:=congrArg (·[0]?) e1
  have e2:=congrArg (·[0]?) e2
  simp only[List.getElem?_take,List.getElem?_drop]at e0 e1 e2
  exact⟨by simpa using e0,by simpa using e1,by simpa using e2⟩
theorem iO{W:World}(hL:laidMetH Tryz.prog [("mantlet/flow.parts",Rows.laid_mantlet_flow_parts)] W):Env W:=by
 rw[MakeChecks.laidMetH_plain _ _ _ zk]at hL;obtain⟨ps,⟨g,t,cs,fuel,p,q,hg,hty,hvar,hd,_,_⟩,_,_⟩:=hL;obtain rfl:=Option.some.inj (ur.symm.trans hg);obtain rfl:=Option.some.inj (Es.symm.trans hty)
 cases fuel with
 | zero=>simp[DataW.trod]at hd
 | succ fuel =>
  unfold Rows.laid_mantlet_flow_parts at hd
  simp only[DataW.trod,Tryz.underlying302,sc]at hd
  split at hd
  ·rename_i hlen;obtain⟨xs,hm,hx⟩:=Option.map_eq_some_iff.1 hd
   have hxs:xs.map (·.1)=[.agg [.lit (.int .i64 0),.lit (.int .i64 40),.lit (.int .i64 1099511627775)],.agg [.lit (.int .i64 40),.lit (.int .i64 20),.lit (.int .i64 1048575)],.agg [.lit (.int .i64 60),.lit (.int .i64 4),.lit (.int .i64 15)]]:=by
    have:=congrArg Prod.fst hx;simpa using this
   match xs,hxs with
   | [(d0,q0),(d1,q1),(d2,q2)],hxs =>
    simp only[List.map_cons,List.map_nil,List.cons.injEq,and_true]at hxs
    obtain⟨rfl,rfl,rfl⟩:=hxs
    obtain⟨b0,hb0,Lt⟩:=mapM_at hm 0 0 zs
    obtain⟨b1,aK,I5⟩:=mapM_at hm 1 1 zs
    obtain⟨b2,aZ,Ob⟩:=mapM_at hm 2 2 zs
    simp at hb0 aK aZ
    subst hb0;subst aK;subst aZ
    obtain⟨x0,x1,x2⟩:=f_ Lt
    obtain⟨x3,x4,x5⟩:=f_ I5
    obtain⟨x6,x7,x8⟩:=f_ Ob
    simp only[List.getElem?_take,List.getElem?_drop]at x0 x1 x2 x3 x4 x5 x6 x7 x8
    have c:∀i v,cs.toList[i]? = some v->W.cell? ⟨2,i,none⟩=some v:=λi v h=>by
     rw[World.var?_cell ur hvar i,← Array.getElem?_toList];exact h
    exact⟨c 0 _ (by simpa using x0),c 1 _ (by simpa using x1),c 2 _ (by simpa using x2),c 3 _ (by simpa using x3),c 4 _ (by simpa using x4),c 5 _ (by simpa using x5),c 6 _ (by simpa using x6),c 7 _ (by simpa using x7),c 8 _ (by simpa using x8)⟩
  ·cases hd
end Fl
end Go.Proofs.YtbhnbcadgmagpaaGreatDoor
