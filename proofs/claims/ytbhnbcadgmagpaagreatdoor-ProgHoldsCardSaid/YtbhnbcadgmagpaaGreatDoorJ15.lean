import Derived.Test.YtbhnbcadgmagpaaGreatDoorBig
import Derived.Test.YtbhnbcadgmagpaaGreatDoorJ1
import Derived.Test.YtbhnbcadgmagpaaGreatDoorJ9
import Derived.Test.YtbhnbcadgmagpaaGreatDoorRows
import Derived.Test.YtbhnbcadgmagpaaGreatDoorJ2
import Derived.Test.YtbhnbcadgmagpaaGreatDoorJ3
set_option linter.unusedVariables false
set_option linter.unusedSimpArgs false
set_option maxHeartbeats 2000000
set_option maxRecDepth 100000
namespace Go.iw
open Go.aE (R)
open Go.aV (aj de)
structure K where
 pr:Nat
 sr:Nat
 ds:Nat
 sp:Nat
 dp:Nat
 fl:Nat
 kd:Nat
structure K.Ok(k:K):Prop where
 pr:k.pr<256
 sr:k.sr<4294967296
 ds:k.ds<4294967296
 sp:k.sp<65536
 dp:k.dp<65536
 fl:k.fl<256
 kd:k.kd<256
def ey(r:R)(k:K):Bool:=decide (r.pr=0)||decide (r.pr=k.pr)
def l_(a b x:Nat):Bool:=decide (a<=x)&&decide (x<=b)
def cE(r:R)(k:K):Bool:=ey r k&&((de r.sa r.sb k.sr&&de r.da r.db k.ds)&&(l_ r.sl r.sh k.sp&&l_ r.dl r.dh k.dp))
theorem jr{r:R}{k:K}(h:r.pr=0):ey r k=true:=by unfold ey;rw[decide_eq_true h,Bool.true_or]
theorem fo{r:R}{k:K}(h:r.pr≠0):ey r k=decide (r.pr=k.pr):=by unfold ey;rw[decide_eq_false h,Bool.false_or]
def fst(k:K)(rs:List R):Option Nat:=rs.findIdx? (λr=>cE r k)
def rp:Option Nat->Int
 | some n=>(n:Int)
 | none=>-1
def j3(rs:List R):Option Nat->Bool
 | some n=>(rs[n]?.map (·.acc)).getD false
 | none=>false
theorem yF{k:K}{rs:List R}{i:Nat}{r:R}(hr:rs[i]? = some r)(hh:cE r k=true)(hb:∀(j:Nat) q,j<i->rs[j]? = some q->cE q k=false):fst k rs=some i:=by
 obtain⟨hi,e⟩:=List.getElem?_eq_some_iff.1 hr;refine List.findIdx?_eq_some_iff_getElem.2 ⟨hi,by rw[e];exact hh,λj hj=>?_⟩;rw[hb j _ hj (List.getElem?_eq_getElem zo)];decide
theorem uw{k:K}{rs:List R}(hb:∀(j:Nat) q,rs[j]? = some q->cE q k=false):fst k rs=none:=by
 refine List.findIdx?_eq_none_iff.2 λx hx=>?_;obtain⟨i,hi,rfl⟩:=List.getElem_of_mem hx;exact hb i _ (List.getElem?_eq_getElem hi)
theorem ux{k:K}{rs:List R}{i:Nat}(h:fst k rs=some i):∃r,rs[i]? = some r/\cE r k=true/\∀(j:Nat) q,j<i->rs[j]? = some q->cE q k=false:=by
 obtain⟨hi,h1,h2⟩:=List.findIdx?_eq_some_iff_getElem.1 h;refine⟨rs[i],List.getElem?_eq_getElem hi,h1,λj q hj hq=>?_⟩;obtain⟨hj',e⟩:=List.getElem?_eq_some_iff.1 hq;have:=h2 j hj;rw[e]at this;simpa using this
theorem yG{rs:List R}{i:Nat}{r:R}(hr:rs[i]? = some r):j3 rs (some i)=r.acc:=by
 show(rs[i]?.map (·.acc)).getD false=r.acc;rw[hr];rfl
def yH(rs:List R):List R:=if 100<rs.length then rs.take 100 else rs
theorem Km{rs:List R}(h:∀r∈rs,r.Ok):∀r∈yH rs,r.Ok:=by
 unfold yH;split
 ·exact λr hr=>h r (List.mem_of_mem_take hr)
 ·exact h
end Go.iw
namespace Go.Proofs.YtbhnbcadgmagpaaGreatDoor
open Go.ChangeShapes Go.WideShapes Go.ChangeAt Go.RowKit Go.aN Go.Lib
namespace Ma
open aV (aj de)
theorem below_drewN(w:World)(n:Nat):Below w.heap.size w (w.drewN n):=⟨rfl,rfl,rfl,Nat.le_refl _,λ_ _=>rfl⟩
theorem lN(w:World)(o:Obj):(w.alloc o).heap[w.heap.size]? = some o:=heap_alloc_new w o
theorem mS{P:Program}{f:FuncId}{args:Array Value}{w:World}{v:Value}(h:Calls P f args w λe w'=>e = .returned v/\w=w'):Calls P f args w λe w'=>e = .returned v/\w'=w :=
 h.mono λ_ _ ⟨he,hw⟩=>⟨he,hw.symm⟩
theorem mU:∀k:Fin 33,4294967295*2 ^ k.val % 4294967296=4294967296 - 2 ^ k.val:=by decide +kernel
theorem jo(a k:Nat)(ha:a<4294967296)(hk:k<=32):a &&& (4294967296 - 2 ^ k)=a - a % 2 ^ k:=by
 have e1:4294967296 - 2 ^ k=2 ^ k*(2 ^ (32 - k) - 1):=by
  rw[Nat.mul_sub,← Nat.pow_add,show k+(32 - k)=32 by omega,Nat.mul_one]
 have e2:a - a % 2 ^ k=2 ^ k*(a / 2 ^ k):=by have:=Nat.div_add_mod a (2 ^ k);omega
 rw[e1,e2];apply Nat.eq_of_testBit_eq;intro i;rw[Nat.testBit_and,Nat.testBit_two_pow_mul,Nat.testBit_two_pow_sub_one,Nat.testBit_two_pow_mul,Nat.testBit_div_two_pow];by_cases hi:k<=i
 ·rw[show i - k+k=i by omega];by_cases h32:i<32
  ·simp[hi,show i - k<32 - k by omega]
  ·have:a.testBit i=false:=Nat.testBit_lt_two_pow (Nat.lt_of_lt_of_le ha (Nat.pow_le_pow_right (show 0<2 by omega) (show 32<=i by omega)));simp[this]
 ·simp[hi]
theorem ax{k:IntKind}{a b:Int}(h:a=b):Ending.returned (.int k a) = .returned (.int k b):=by rw[h]
theorem aR{a b:Bool}(h:a=b):Ending.returned (.bool a) = .returned (.bool b):=by rw[h]
theorem mV(a:Nat)(n:Int)(h0:0<=n)(h1:n<=32):((a:Int)==((a - a % 2 ^ (32 - n.toNat):Nat):Int))=aj a n:=by
 unfold aj;rw[decide_eq_true ⟨h0,h1⟩,Bool.true_and,Bool.eq_iff_iff,beq_iff_eq,beq_iff_eq];have:=Nat.mod_le a (2 ^ (32 - n.toNat));omega
theorem fM(a:Nat)(n:Int)(h : ¬(0<=n/\n<=32)):aj a n=false:=by
 unfold aj;rw[decide_eq_false h,Bool.false_and]
abbrev boxed(w:World)(a n:Int):World:=w.alloc (.cells #[.int .u32 a,.int .i64 n] 75)
theorem cq(w:World)(a n:Int)(k:Nat):Below w.heap.size w ((boxed w a n).drewN k):=(((Below.refl _ _).alloc zl _).trans ((below_drewN _ k).mono zs))
theorem jA(a:Nat)(n:Int)(ha:a<4294967296)(h0:0<=n)(h1:n<=32) :
  bits .and .u32 (a:Int) (4294967295*2 ^ (32 - n).toNat % 4294967296)=((a - a % 2 ^ (32 - n.toNat):Nat):Int):=by
 have e:(32 - n).toNat=32 - n.toNat:=zo
 have hm:=mU ⟨32 - n.toNat,by omega⟩
 have hp:2 ^ (32 - n.toNat)<=2 ^ 32:=Nat.pow_le_pow_right zo zo
 simp only[]at hm
 have hz:(4294967295*2 ^ (32 - n).toNat % 4294967296:Int)=((4294967296 - 2 ^ (32 - n.toNat):Nat):Int):=by
  rw[e,← hm];simp
 rw[hz,u32_and_nat _ _ ha (by have:=Nat.pow_pos (n:=32 - n.toNat) (show 0<2 by omega);omega),jo a _ ha zo]
theorem ff(a:Nat)(n:Int)(ha:a<4294967296)(h0:0<=n)(h1:n<=32)(w:World) :
  Calls Tryz.prog 267 #[.int .u32 (a:Int),.int .i64 n] w λe w'=>e = .returned (.int .u32 ((a - a % 2 ^ (32 - n.toNat):Nat):Int))/\w=w':=by
 go_in
 go_wp2
 go_ret
 exact⟨ax (jA a n ha h0 h1),rfl⟩
theorem gu(a:Nat)(n:Int)(ha:a<4294967296)(w:World) :
  Calls Tryz.prog 217 #[.agg #[.int .u32 (a:Int),.int .i64 n]] w λe w'=>e = .returned (.bool (aj a n))/\Below w.heap.size w w':=by
 by_cases h0:0<=n
 ·by_cases h1:n<=32
  ·have HV:=hid (mV a n h0 h1);go_in;go_wp2
   go_quiet ((go_at_call 267;exact Calls.quiet_of_same (mS (ff a n ha h0 h1 _))))
   go_wp2;go_ret;exact⟨aR HV.out,cq _ _ _ _⟩
  ·have HV:=hid (fM a n zo)
   have hd:decide (n<=32)=false:=by simpa using h1
   clear h1;go_in;go_wp2
   go_quiet (fail)
   go_wp2;go_ret;exact⟨aR HV.out.symm,cq _ _ _ _⟩
 ·have HV:=hid (fM a n zo)
  have hd:decide (0<=n)=false:=by simpa using h0
  clear h0;go_in;go_wp2
  go_quiet (fail)
  go_wp2;go_ret;exact⟨aR HV.out.symm,cq _ _ _ _⟩
def aG(w:World)(a n:Int)(w1:World):Prop :=
 w1.cell? ⟨w.heap.size,0,none⟩=some (.int .u32 a)/\w1.cell? ⟨w.heap.size,1,none⟩=some (.int .i64 n)/\Below w.heap.size w w1/\w.heap.size<w1.heap.size
theorem cA(w:World)(a n:Int):aG w a n (boxed w a n) :=
 ⟨by rw[cell_of_row _ _ _ _ _ _ (lN _ _)];rfl,by rw[cell_of_row _ _ _ _ _ _ (lN _ _)];rfl,(Below.refl _ _).alloc zl _,by simp⟩
theorem aG.next{w w1 w2:World}{a n:Int}(h:aG w a n w1)(hb:Below w1.heap.size w1 w2):aG w a n w2 :=
 ⟨(hb.cell h.2.2.2).trans h.1,(hb.cell h.2.2.2).trans h.2.1,h.2.2.1.trans (hb.mono (by have:=h.2.2.2;omega)),by have:=h.2.2.2;have:=hb.size;omega⟩
theorem aG.go{w w1 w2:World}{a n:Int}(h:Hid (aG w a n w1))(hb:Below w1.heap.size w1 w2) :
  w2.cell? ⟨w.heap.size,0,none⟩=some (.int .u32 a)/\w2.cell? ⟨w.heap.size,1,none⟩=some (.int .i64 n)/\Hid (aG w a n w2) :=
 ⟨(h.out.next hb).1,(h.out.next hb).2.1,h.out.next hb⟩
theorem aG.PM{w w1 w2:World}{a n:Int}(h:w1.cell? ⟨w.heap.size,0,none⟩=some (.int .u32 a)/\w1.cell? ⟨w.heap.size,1,none⟩=some (.int .i64 n)/\Hid (aG w a n w1))(hb:Below w1.heap.size w1 w2) :
  w2.cell? ⟨w.heap.size,0,none⟩=some (.int .u32 a)/\w2.cell? ⟨w.heap.size,1,none⟩=some (.int .i64 n)/\Hid (aG w a n w2):=aG.go h.2.2 hb
theorem aG.PN{w w1:World}{a n:Int}(h:Hid (aG w a n w1)) :
  w1.drew.cell? ⟨w.heap.size,0,none⟩=some (.int .u32 a)/\w1.drew.cell? ⟨w.heap.size,1,none⟩=some (.int .i64 n)/\Hid (aG w a n w1.drew) :=
 ⟨h.out.1,h.out.2.1,h.out.1,h.out.2.1,h.out.2.2.1.drew,h.out.2.2.2⟩
theorem DA(a x:Nat)(n:Int)(h:0<=n/\n<=32)(hv:aj a n=true):(((x - x % 2 ^ (32 - n.toNat):Nat):Int)==(a:Int))=de a n x:=by
 unfold de;rw[hv,Bool.true_and,Bool.eq_iff_iff,beq_iff_eq,beq_iff_eq];have h1:=(aV.df.1 hv).2;have h2:=Nat.div_add_mod x (2 ^ (32 - n.toNat));have h3:=Nat.div_add_mod a (2 ^ (32 - n.toNat));have h4:0<2 ^ (32 - n.toNat):=Nat.pow_pos zo;constructor
 ·intro e;have:2 ^ (32 - n.toNat)*(x / 2 ^ (32 - n.toNat))=2 ^ (32 - n.toNat)*(a / 2 ^ (32 - n.toNat)):=zo;exact Nat.eq_of_mul_eq_mul_left h4 this
 ·intro e;rw[e]at h2;omega
theorem bK(a x:Nat)(n:Int)(ha:a<4294967296)(hx:x<4294967296)(w:World) :
  Calls Tryz.prog 278 #[.agg #[.int .u32 (a:Int),.int .i64 n],.int .u32 (x:Int)] w λe w'=>e = .returned (.bool (de a n x))/\Below w.heap.size w w':=by
 have HV:=hid (λW=>gu a n ha W)
 have HN:=cA w a n
 cases hv:aj a n with
 | false =>
  rw[hv]at HV
  have HR:Hid (de a n x=false):=by show _=_;unfold de;rw[hv];rfl
  have hc0:=HN.1
  have hc1:=HN.2.1
  have Oi:=hid HN
  clear hv HN
  go_in
  go_wp2
  refine wp_region_held_drew (S:=λw'=>w'.cell? ⟨w.heap.size,0,none⟩=some (.int .u32 a)/\w'.cell? ⟨w.heap.size,1,none⟩=some (.int .i64 n)/\Hid (aG w a n w')) zk (aG.PN Oi) (λhH=>?_)
  refine wpAnyH_take (i:=0) (oi:=⟨some 5,_,_,_,_,_⟩) (v:=.agg #[.int .u32 (a:Int),.int .i64 n]) rfl zk zk zk zh (Or.inl ⟨rfl,λw' hS=>?c0⟩) hH ?_
  case c0=>(obtain⟨ZL,hS1,_⟩:=hS;go_simp)
  simp only[Act.put,zq]
  refine wpAnyH_ready (rs:=[1]) zk zs (AllReadyH.cons rfl (λK hK=>?_) AllReadyH.nil)
  go_simp
  go_at_call 217
  refine(HV.out _).mono ?_
  rintro e w2 ⟨rfl,cz⟩
  refine hK.out _ _ (aG.PM hH cz) (λuZ=>?_)
  clear hK K hH
  refine wpAnyH_take (i:=2) (oi:=⟨some 7,_,_,_,_,_⟩) (v:=.bool false) rfl zk zk zk zh (Or.inl ⟨rfl,λw' hS=>?c2⟩) uZ ?_
  case c2=>go_simp
  simp only[Act.put,zq]
  refine wpAnyH_take (i:=3) (oi:=⟨some 8,_,_,_,_,_⟩) (v:=undef) rfl zk zk zk zh (Or.inr ⟨rfl,rfl⟩) uZ ?_
  simp only[Act.put,zq]
  refine wpAnyH_take (i:=4) (oi:=⟨some 9,_,_,_,_,_⟩) (v:=undef) rfl zk zk zk zh (Or.inr ⟨rfl,rfl⟩) uZ ?_
  simp only[Act.put,zq]
  refine wpAnyH_take (i:=5) (oi:=⟨some 10,_,_,_,_,_⟩) (v:=undef) rfl zk zk zk zh (Or.inr ⟨rfl,rfl⟩) uZ ?_
  simp only[Act.put,zq]
  refine wpAnyH_take (i:=6) (oi:=⟨some 11,_,_,_,_,_⟩) (v:=undef) rfl zk zk zk zh (Or.inr ⟨rfl,rfl⟩) uZ ?_
  simp only[Act.put,zq]
  refine wpAnyH_take (i:=7) (oi:=⟨some 12,_,_,_,_,_⟩) (v:=undef) rfl zk zk zk zh (Or.inr ⟨rfl,rfl⟩) uZ ?_
  simp only[Act.put,zq]
  refine wpAnyH_take (i:=8) (oi:=⟨some 13,_,_,_,_,_⟩) (v:=undef) rfl zk zk zk zh (Or.inr ⟨rfl,rfl⟩) uZ ?_
  simp only[Act.put,zq]
  refine wpAnyH_take (i:=9) (oi:=⟨some 14,_,_,_,_,_⟩) (v:=undef) rfl zk zk zk zh (Or.inr ⟨rfl,rfl⟩) uZ ?_
  simp only[Act.put,zq]
  refine wpAnyH_take (i:=10) (oi:=⟨some 15,_,_,_,_,_⟩) (v:=.bool false) rfl zk zk zk zh (Or.inl ⟨rfl,λw' hS=>?c10⟩) uZ ?_
  case c10=>go_simp
  simp only[Act.put,zq]
  refine wpAnyH_take (i:=11) (oi:=⟨some 4,_,_,_,_,_⟩) (v:=.bool false) rfl zk zk zk zh (Or.inl ⟨rfl,λw' hS=>?c11⟩) uZ ?_
  case c11=>go_simp
  simp only[Act.put,zq]
  refine wpAnyH_done zk ?_ _
  go_wp2
  go_ret
  exact⟨aR HR.out.symm,uZ.2.2.out.2.2.1⟩
 | true =>
  rw[hv]at HV
  have Oj:=(aV.df.1 hv).1
  have HR:=hid (DA a x n Oj hv)
  have HH:=hid (λW=>ff x n hx Oj.1 Oj.2 W)
  have hc0:=HN.1
  have hc1:=HN.2.1
  have Oi:=hid HN
  clear hv HN Oj
  go_in
  go_wp2
  go_region_held3 (λw'=>w'.cell? ⟨w.heap.size,0,none⟩=some (.int .u32 a)/\w'.cell? ⟨w.heap.size,1,none⟩=some (.int .i64 n)/\Hid (aG w a n w')) (first | exact aG.PN zz | exact aG.PM zz zz | go_keep)
   (first
    | (go_at_call 217;refine(HV.out _).mono ?_;rintro e w2 ⟨rfl,cz⟩)
    | (go_at_call 267;refine(HH.out _).mono ?_;rintro e w2 ⟨rfl,rfl⟩))
  go_wp2
  go_ret
  have hh:w2.cell? ⟨w.heap.size,0,none⟩=some (.int .u32 (a:Int))/\w2.cell? ⟨w.heap.size,1,none⟩=some (.int .i64 n)/\Hid (aG w a n w2):=zz
  exact⟨aR HR.out,hh.2.2.out.2.2.1⟩
theorem aG.fin{w w1:World}{a n:Int}(h:w1.cell? ⟨w.heap.size,0,none⟩=some (.int .u32 a)/\w1.cell? ⟨w.heap.size,1,none⟩=some (.int .i64 n)/\Hid (aG w a n w1)):Below w.heap.size w w1:=h.2.2.out.2.2.1
end Ma
namespace Ma
open aE (R)
open iw (K cE ey jr fo l_)
open aV (de)
abbrev rK(r:R):Array Value:=#[.bool r.acc,.int .u8 (r.pr:Int),.int .u32 (r.sa:Int),.int .i64 r.sb,.int .u32 (r.da:Int),.int .i64 r.db,.int .u16 (r.sl:Int),.int .u16 (r.sh:Int),.int .u16 (r.dl:Int),.int .u16 (r.dh:Int)]
abbrev pK(k:K):Array Value:=#[.int .u8 (k.pr:Int),.int .u32 (k.sr:Int),.int .u32 (k.ds:Int),.int .u16 (k.sp:Int),.int .u16 (k.dp:Int),.int .u8 (k.fl:Int),.int .u8 (k.kd:Int)]
theorem ae(w:World)(o:Obj):Below w.heap.size w (w.alloc o):=(Below.refl _ w).alloc zl o
theorem aA{w w1 w2:World}(h:Below w.heap.size w w1)(h2:Below w1.heap.size w1 w2):Below w.heap.size w w2:=h.trans (h2.mono h.size)
structure LP(w:World)(h:Nat)(k:K)(W:World):Prop where
 blk:aF W h (pK k) 95
 az:Below w.heap.size w W
theorem LP.next{w W W':World}{h:Nat}{k:K}(H:LP w h k W)(hb:Below W.heap.size W W'):LP w h k W':=⟨H.blk.next hb,aA H.az hb⟩
theorem LP.box(w:World)(k:K):LP w w.heap.size k (w.alloc (.cells (pK k) 95)):=⟨aF.box _ _ _,ae _ _⟩
theorem LP.cells{w W:World}{h:Nat}{k:K}(H:LP w h k W):W.cell? ⟨h,0,none⟩=some (.int .u8 (k.pr:Int))/\W.cell? ⟨h,1,none⟩=some (.int .u32 (k.sr:Int))/\W.cell? ⟨h,2,none⟩=some (.int .u32 (k.ds:Int))/\W.cell? ⟨h,3,none⟩=some (.int .u16 (k.sp:Int)) ∧
  W.cell? ⟨h,4,none⟩=some (.int .u16 (k.dp:Int))/\W.cell? ⟨h,5,none⟩=some (.int .u8 (k.fl:Int))/\W.cell? ⟨h,6,none⟩=some (.int .u8 (k.kd:Int)) :=
 ⟨H.blk.cell 0 _ rfl,H.blk.cell 1 _ rfl,H.blk.cell 2 _ rfl,H.blk.cell 3 _ rfl,H.blk.cell 4 _ rfl,H.blk.cell 5 _ rfl,H.blk.cell 6 _ rfl⟩
structure eD(w:World)(g:Nat)(r:R)(W:World):Prop where
 blk:aF W g (rK r) 80
 az:Below w.heap.size w W
theorem eD.next{w W W':World}{g:Nat}{r:R}(H:eD w g r W)(hb:Below W.heap.size W W'):eD w g r W':=⟨H.blk.next hb,aA H.az hb⟩
theorem eD.box(w:World)(r:R):eD w w.heap.size r (w.alloc (.cells (rK r) 80)):=⟨aF.box _ _ _,ae _ _⟩
theorem eD.cells{w W:World}{g:Nat}{r:R}(H:eD w g r W):W.cell? ⟨g,0,none⟩=some (.bool r.acc)/\W.cell? ⟨g,1,none⟩=some (.int .u8 (r.pr:Int))/\W.cell? ⟨g,2,none⟩=some (.int .u32 (r.sa:Int))/\W.cell? ⟨g,3,none⟩=some (.int .i64 r.sb)/\W.cell? ⟨g,4,none⟩=some (.int .u32 (r.da:Int))/\W.cell? ⟨g,5,none⟩=some (.int .i64 r.db) ∧
  W.cell? ⟨g,6,none⟩=some (.int .u16 (r.sl:Int))/\W.cell? ⟨g,7,none⟩=some (.int .u16 (r.sh:Int))/\W.cell? ⟨g,8,none⟩=some (.int .u16 (r.dl:Int))/\W.cell? ⟨g,9,none⟩=some (.int .u16 (r.dh:Int)) :=
 ⟨H.blk.cell 0 _ rfl,H.blk.cell 1 _ rfl,H.blk.cell 2 _ rfl,H.blk.cell 3 _ rfl,H.blk.cell 4 _ rfl,H.blk.cell 5 _ rfl,H.blk.cell 6 _ rfl,H.blk.cell 7 _ rfl,H.blk.cell 8 _ rfl,H.blk.cell 9 _ rfl⟩
structure Two(w:World)(r:R)(k:K)(W:World):Prop where
 r:eD w w.heap.size r W
 k:LP w (w.heap.size+1) k W
theorem Two.box(w:World)(r:R)(k:K):Two w r k ((w.alloc (.cells (rK r) 80)).alloc (.cells (pK k) 95)) :=
 ⟨(eD.box w r).next (ae _ _),⟨aF.n5 _ _ _ _,aA (ae _ _) (ae _ _)⟩⟩
theorem Two.next{w W W':World}{r:R}{k:K}(H:Two w r k W)(hb:Below W.heap.size W W'):Two w r k W':=⟨H.r.next hb,H.k.next hb⟩
theorem aC(a b x:Nat)(w:World) :
  Calls Tryz.prog 279 #[.agg #[.int .u16 (a:Int),.int .u16 (b:Int)],.int .u16 (x:Int)] w λe w'=>e = .returned (.bool (l_ a b x))/\Below w.heap.size w w':=by
 have HB:=hid (ae w (.cells #[.int .u16 (a:Int),.int .u16 (b:Int)] 78))
 obtain⟨p,hp⟩:∃p,decide (a<=x)=p:=⟨_,rfl⟩
 obtain⟨q,hq⟩:∃q,decide (x<=b)=q:=⟨_,rfl⟩
 have HR:Hid (l_ a b x=(p&&q)):=by show _=_;unfold l_;rw[hp,hq]
 cases p
 ·go_in;go_wp2_with fail;go_ret;exact⟨aR (by rw[HR.out];rfl),HB.out⟩
 ·go_in;go_wp2_with fail;go_ret;exact⟨aR (by rw[HR.out];rfl),HB.out⟩
theorem Hw(r:R)(k:K)(ho:r.Ok)(hk:k.Ok)(w:World)(hp:r.pr=0)(b2 b4:Bool)(h1:de r.sa r.sb k.sr=true)(h2:de r.da r.db k.ds=b2)(h3:l_ r.sl r.sh k.sp=true)(h4:l_ r.dl r.dh k.dp=b4) :
  Calls Tryz.prog 251 #[.agg #[.bool r.acc,.int .u8 (r.pr:Int),.int .u32 (r.sa:Int),.int .i64 r.sb,.int .u32 (r.da:Int),.int .i64 r.db,.int .u16 (r.sl:Int),.int .u16 (r.sh:Int),.int .u16 (r.dl:Int),.int .u16 (r.dh:Int)],.agg #[.int .u8 (k.pr:Int),.int .u32 (k.sr:Int),.int .u32 (k.ds:Int),.int .u16 (k.sp:Int),.int .u16 (k.dp:Int),.int .u8 (k.fl:Int),.int .u8 (k.kd:Int)]] w λe w'=>e = .returned (.bool (cE r k))/\Below w.heap.size w w':=by
 have HR:Hid (cE r k=(true&&((true&&b2)&&(true&&b4)))):=by
  show _=_;unfold cE;rw[h1,h2,h3,h4,jr hp]
 have H1:=hid (λW=>bK r.sa k.sr r.sb ho.sa hk.sr W)
 have H2:=hid (λW=>bK r.da k.ds r.db ho.da hk.ds W)
 have H3:=hid (λW=>aC r.sl r.sh k.sp W)
 have H4:=hid (λW=>aC r.dl r.dh k.dp W)
 rw[h1]at H1;rw[h2]at H2;rw[h3]at H3;rw[h4]at H4
 have d0:((r.pr:Int)==0)=true:=by rw[hp];rfl
 have HK:=hid (Two.box w r k)
 clear ho hk h1 h2 h3 h4 hp
 obtain⟨x0,x1,x2,x3,x4,x5,x6,x7,x8,x9⟩:=HK.out.r.cells
 obtain⟨y0,y1,y2,y3,y4,y5,y6⟩:=HK.out.k.cells
 go_in
 go_wp2_with fail
 refine(H1.out _).mono ?_
 rintro e w1 ⟨rfl,hb⟩
 have cw:=hid (HK.out.next hb)
 clear hb x0 x1 x2 x3 x4 x5 x6 x7 x8 x9 y0 y1 y2 y3 y4 y5 y6 HK H1
 have HK:=cw
 clear cw
 obtain⟨x0,x1,x2,x3,x4,x5,x6,x7,x8,x9⟩:=HK.out.r.cells
 obtain⟨y0,y1,y2,y3,y4,y5,y6⟩:=HK.out.k.cells
 go_wp2_with fail
 refine(H2.out _).mono ?_
 rintro e w2 ⟨rfl,hb⟩
 have cw:=hid (HK.out.next hb)
 clear hb x0 x1 x2 x3 x4 x5 x6 x7 x8 x9 y0 y1 y2 y3 y4 y5 y6 HK H2
 have HK:=cw
 clear cw
 obtain⟨x0,x1,x2,x3,x4,x5,x6,x7,x8,x9⟩:=HK.out.r.cells
 obtain⟨y0,y1,y2,y3,y4,y5,y6⟩:=HK.out.k.cells
 go_wp2_with fail
 refine(H3.out _).mono ?_
 rintro e w3 ⟨rfl,hb⟩
 have cw:=hid (HK.out.next hb)
 clear hb x0 x1 x2 x3 x4 x5 x6 x7 x8 x9 y0 y1 y2 y3 y4 y5 y6 HK H3
 have HK:=cw
 clear cw
 obtain⟨x0,x1,x2,x3,x4,x5,x6,x7,x8,x9⟩:=HK.out.r.cells
 obtain⟨y0,y1,y2,y3,y4,y5,y6⟩:=HK.out.k.cells
 go_wp2_with fail
 refine(H4.out _).mono ?_
 rintro e w4 ⟨rfl,hb⟩
 have cw:=hid (HK.out.next hb)
 clear hb x0 x1 x2 x3 x4 x5 x6 x7 x8 x9 y0 y1 y2 y3 y4 y5 y6 HK H4
 have HK:=cw
 clear cw
 obtain⟨x0,x1,x2,x3,x4,x5,x6,x7,x8,x9⟩:=HK.out.r.cells
 obtain⟨y0,y1,y2,y3,y4,y5,y6⟩:=HK.out.k.cells
 cases b2 <;> cases b4 <;> (go_wp2_with fail;go_ret;exact⟨aR (by rw[HR.out];rfl),HK.out.r.az⟩)
theorem Hx(r:R)(k:K)(ho:r.Ok)(hk:k.Ok)(w:World)(hp:r.pr=0)(b2 b4:Bool)(h1:de r.sa r.sb k.sr=true)(h2:de r.da r.db k.ds=b2)(h3:l_ r.sl r.sh k.sp=false)(h4:l_ r.dl r.dh k.dp=b4) :
  Calls Tryz.prog 251 #[.agg #[.bool r.acc,.int .u8 (r.pr:Int),.int .u32 (r.sa:Int),.int .i64 r.sb,.int .u32 (r.da:Int),.int .i64 r.db,.int .u16 (r.sl:Int),.int .u16 (r.sh:Int),.int .u16 (r.dl:Int),.int .u16 (r.dh:Int)],.agg #[.int .u8 (k.pr:Int),.int .u32 (k.sr:Int),.int .u32 (k.ds:Int),.int .u16 (k.sp:Int),.int .u16 (k.dp:Int),.int .u8 (k.fl:Int),.int .u8 (k.kd:Int)]] w λe w'=>e = .returned (.bool (cE r k))/\Below w.heap.size w w':=by
 have HR:Hid (cE r k=(true&&((true&&b2)&&(false&&b4)))):=by
  show _=_;unfold cE;rw[h1,h2,h3,h4,jr hp]
 have H1:=hid (λW=>bK r.sa k.sr r.sb ho.sa hk.sr W)
 have H2:=hid (λW=>bK r.da k.ds r.db ho.da hk.ds W)
 have H3:=hid (λW=>aC r.sl r.sh k.sp W)
 have H4:=hid (λW=>aC r.dl r.dh k.dp W)
 rw[h1]at H1;rw[h2]at H2;rw[h3]at H3;rw[h4]at H4
 have d0:((r.pr:Int)==0)=true:=by rw[hp];rfl
 have HK:=hid (Two.box w r k)
 clear ho hk h1 h2 h3 h4 hp
 obtain⟨x0,x1,x2,x3,x4,x5,x6,x7,x8,x9⟩:=HK.out.r.cells
 obtain⟨y0,y1,y2,y3,y4,y5,y6⟩:=HK.out.k.cells
 go_in
 go_wp2_with fail
 refine(H1.out _).mono ?_
 rintro e w1 ⟨rfl,hb⟩
 have cw:=hid (HK.out.next hb)
 clear hb x0 x1 x2 x3 x4 x5 x6 x7 x8 x9 y0 y1 y2 y3 y4 y5 y6 HK H1
 have HK:=cw
 clear cw
 obtain⟨x0,x1,x2,x3,x4,x5,x6,x7,x8,x9⟩:=HK.out.r.cells
 obtain⟨y0,y1,y2,y3,y4,y5,y6⟩:=HK.out.k.cells
 go_wp2_with fail
 refine(H2.out _).mono ?_
 rintro e w2 ⟨rfl,hb⟩
 have cw:=hid (HK.out.next hb)
 clear hb x0 x1 x2 x3 x4 x5 x6 x7 x8 x9 y0 y1 y2 y3 y4 y5 y6 HK H2
 have HK:=cw
 clear cw
 obtain⟨x0,x1,x2,x3,x4,x5,x6,x7,x8,x9⟩:=HK.out.r.cells
 obtain⟨y0,y1,y2,y3,y4,y5,y6⟩:=HK.out.k.cells
 go_wp2_with fail
 refine(H3.out _).mono ?_
 rintro e w3 ⟨rfl,hb⟩
 have cw:=hid (HK.out.next hb)
 clear hb x0 x1 x2 x3 x4 x5 x6 x7 x8 x9 y0 y1 y2 y3 y4 y5 y6 HK H3
 have HK:=cw
 clear cw
 obtain⟨x0,x1,x2,x3,x4,x5,x6,x7,x8,x9⟩:=HK.out.r.cells
 obtain⟨y0,y1,y2,y3,y4,y5,y6⟩:=HK.out.k.cells
 cases b2 <;> cases b4 <;> (go_wp2_with fail;go_ret;exact⟨aR (by rw[HR.out];rfl),HK.out.r.az⟩)
theorem Hy(r:R)(k:K)(ho:r.Ok)(hk:k.Ok)(w:World)(hp:r.pr=0)(b2 b4:Bool)(h1:de r.sa r.sb k.sr=false)(h2:de r.da r.db k.ds=b2)(h3:l_ r.sl r.sh k.sp=true)(h4:l_ r.dl r.dh k.dp=b4) :
  Calls Tryz.prog 251 #[.agg #[.bool r.acc,.int .u8 (r.pr:Int),.int .u32 (r.sa:Int),.int .i64 r.sb,.int .u32 (r.da:Int),.int .i64 r.db,.int .u16 (r.sl:Int),.int .u16 (r.sh:Int),.int .u16 (r.dl:Int),.int .u16 (r.dh:Int)],.agg #[.int .u8 (k.pr:Int),.int .u32 (k.sr:Int),.int .u32 (k.ds:Int),.int .u16 (k.sp:Int),.int .u16 (k.dp:Int),.int .u8 (k.fl:Int),.int .u8 (k.kd:Int)]] w λe w'=>e = .returned (.bool (cE r k))/\Below w.heap.size w w':=by
 have HR:Hid (cE r k=(true&&((false&&b2)&&(true&&b4)))):=by
  show _=_;unfold cE;rw[h1,h2,h3,h4,jr hp]
 have H1:=hid (λW=>bK r.sa k.sr r.sb ho.sa hk.sr W)
 have H2:=hid (λW=>bK r.da k.ds r.db ho.da hk.ds W)
 have H3:=hid (λW=>aC r.sl r.sh k.sp W)
 have H4:=hid (λW=>aC r.dl r.dh k.dp W)
 rw[h1]at H1;rw[h2]at H2;rw[h3]at H3;rw[h4]at H4
 have d0:((r.pr:Int)==0)=true:=by rw[hp];rfl
 have HK:=hid (Two.box w r k)
 clear ho hk h1 h2 h3 h4 hp
 obtain⟨x0,x1,x2,x3,x4,x5,x6,x7,x8,x9⟩:=HK.out.r.cells
 obtain⟨y0,y1,y2,y3,y4,y5,y6⟩:=HK.out.k.cells
 go_in
 go_wp2_with fail
 refine(H1.out _).mono ?_
 rintro e w1 ⟨rfl,hb⟩
 have cw:=hid (HK.out.next hb)
 clear hb x0 x1 x2 x3 x4 x5 x6 x7 x8 x9 y0 y1 y2 y3 y4 y5 y6 HK H1
 have HK:=cw
 clear cw
 obtain⟨x0,x1,x2,x3,x4,x5,x6,x7,x8,x9⟩:=HK.out.r.cells
 obtain⟨y0,y1,y2,y3,y4,y5,y6⟩:=HK.out.k.cells
 go_wp2_with fail
 refine(H3.out _).mono ?_
 rintro e w3 ⟨rfl,hb⟩
 have cw:=hid (HK.out.next hb)
 clear hb x0 x1 x2 x3 x4 x5 x6 x7 x8 x9 y0 y1 y2 y3 y4 y5 y6 HK H3
 have HK:=cw
 clear cw
 obtain⟨x0,x1,x2,x3,x4,x5,x6,x7,x8,x9⟩:=HK.out.r.cells
 obtain⟨y0,y1,y2,y3,y4,y5,y6⟩:=HK.out.k.cells
 go_wp2_with fail
 refine(H4.out _).mono ?_
 rintro e w4 ⟨rfl,hb⟩
 have cw:=hid (HK.out.next hb)
 clear hb x0 x1 x2 x3 x4 x5 x6 x7 x8 x9 y0 y1 y2 y3 y4 y5 y6 HK H4
 have HK:=cw
 clear cw
 obtain⟨x0,x1,x2,x3,x4,x5,x6,x7,x8,x9⟩:=HK.out.r.cells
 obtain⟨y0,y1,y2,y3,y4,y5,y6⟩:=HK.out.k.cells
 cases b2 <;> cases b4 <;> (go_wp2_with fail;go_ret;exact⟨aR (by rw[HR.out];rfl),HK.out.r.az⟩)
theorem Hz(r:R)(k:K)(ho:r.Ok)(hk:k.Ok)(w:World)(hp:r.pr=0)(b2 b4:Bool)(h1:de r.sa r.sb k.sr=false)(h2:de r.da r.db k.ds=b2)(h3:l_ r.sl r.sh k.sp=false)(h4:l_ r.dl r.dh k.dp=b4) :
  Calls Tryz.prog 251 #[.agg #[.bool r.acc,.int .u8 (r.pr:Int),.int .u32 (r.sa:Int),.int .i64 r.sb,.int .u32 (r.da:Int),.int .i64 r.db,.int .u16 (r.sl:Int),.int .u16 (r.sh:Int),.int .u16 (r.dl:Int),.int .u16 (r.dh:Int)],.agg #[.int .u8 (k.pr:Int),.int .u32 (k.sr:Int),.int .u32 (k.ds:Int),.int .u16 (k.sp:Int),.int .u16 (k.dp:Int),.int .u8 (k.fl:Int),.int .u8 (k.kd:Int)]] w λe w'=>e = .returned (.bool (cE r k))/\Below w.heap.size w w':=by
 have HR:Hid (cE r k=(true&&((false&&b2)&&(false&&b4)))):=by
  show _=_;unfold cE;rw[h1,h2,h3,h4,jr hp]
 have H1:=hid (λW=>bK r.sa k.sr r.sb ho.sa hk.sr W)
 have H2:=hid (λW=>bK r.da k.ds r.db ho.da hk.ds W)
 have H3:=hid (λW=>aC r.sl r.sh k.sp W)
 have H4:=hid (λW=>aC r.dl r.dh k.dp W)
 rw[h1]at H1;rw[h2]at H2;rw[h3]at H3;rw[h4]at H4
 have d0:((r.pr:Int)==0)=true:=by rw[hp];rfl
 have HK:=hid (Two.box w r k)
 clear ho hk h1 h2 h3 h4 hp
 obtain⟨x0,x1,x2,x3,x4,x5,x6,x7,x8,x9⟩:=HK.out.r.cells
 obtain⟨y0,y1,y2,y3,y4,y5,y6⟩:=HK.out.k.cells
 go_in
 go_wp2_with fail
 refine(H1.out _).mono ?_
 rintro e w1 ⟨rfl,hb⟩
 have cw:=hid (HK.out.next hb)
 clear hb x0 x1 x2 x3 x4 x5 x6 x7 x8 x9 y0 y1 y2 y3 y4 y5 y6 HK H1
 have HK:=cw
 clear cw
 obtain⟨x0,x1,x2,x3,x4,x5,x6,x7,x8,x9⟩:=HK.out.r.cells
 obtain⟨y0,y1,y2,y3,y4,y5,y6⟩:=HK.out.k.cells
 go_wp2_with fail
 refine(H3.out _).mono ?_
 rintro e w3 ⟨rfl,hb⟩
 have cw:=hid (HK.out.next hb)
 clear hb x0 x1 x2 x3 x4 x5 x6 x7 x8 x9 y0 y1 y2 y3 y4 y5 y6 HK H3
 have HK:=cw
 clear cw
 obtain⟨x0,x1,x2,x3,x4,x5,x6,x7,x8,x9⟩:=HK.out.r.cells
 obtain⟨y0,y1,y2,y3,y4,y5,y6⟩:=HK.out.k.cells
 cases b2 <;> cases b4 <;> (go_wp2_with fail;go_ret;exact⟨aR (by rw[HR.out];rfl),HK.out.r.az⟩)
theorem H_(r:R)(k:K)(ho:r.Ok)(hk:k.Ok)(w:World)(hp:r.pr≠0)(hq:r.pr=k.pr)(b2 b4:Bool)(h1:de r.sa r.sb k.sr=true)(h2:de r.da r.db k.ds=b2)(h3:l_ r.sl r.sh k.sp=true)(h4:l_ r.dl r.dh k.dp=b4) :
  Calls Tryz.prog 251 #[.agg #[.bool r.acc,.int .u8 (r.pr:Int),.int .u32 (r.sa:Int),.int .i64 r.sb,.int .u32 (r.da:Int),.int .i64 r.db,.int .u16 (r.sl:Int),.int .u16 (r.sh:Int),.int .u16 (r.dl:Int),.int .u16 (r.dh:Int)],.agg #[.int .u8 (k.pr:Int),.int .u32 (k.sr:Int),.int .u32 (k.ds:Int),.int .u16 (k.sp:Int),.int .u16 (k.dp:Int),.int .u8 (k.fl:Int),.int .u8 (k.kd:Int)]] w λe w'=>e = .returned (.bool (cE r k))/\Below w.heap.size w w':=by
 have HR:Hid (cE r k=(true&&((true&&b2)&&(true&&b4)))):=by
  show _=_;unfold cE;rw[h1,h2,h3,h4,fo hp,decide_eq_true hq]
 have H1:=hid (λW=>bK r.sa k.sr r.sb ho.sa hk.sr W)
 have H2:=hid (λW=>bK r.da k.ds r.db ho.da hk.ds W)
 have H3:=hid (λW=>aC r.sl r.sh k.sp W)
 have H4:=hid (λW=>aC r.dl r.dh k.dp W)
 rw[h1]at H1;rw[h2]at H2;rw[h3]at H3;rw[h4]at H4
 have d0:((r.pr:Int)==0)=false:=by rw[beq_eq_false_iff_ne];omega
 have d1:((r.pr:Int)==(k.pr:Int))=true:=by rw[hq];exact beq_self_eq_true _
 have HK:=hid (Two.box w r k)
 clear hq
 clear ho hk h1 h2 h3 h4 hp
 obtain⟨x0,x1,x2,x3,x4,x5,x6,x7,x8,x9⟩:=HK.out.r.cells
 obtain⟨y0,y1,y2,y3,y4,y5,y6⟩:=HK.out.k.cells
 go_in
 go_wp2_with fail
 refine(H1.out _).mono ?_
 rintro e w1 ⟨rfl,hb⟩
 have cw:=hid (HK.out.next hb)
 clear hb x0 x1 x2 x3 x4 x5 x6 x7 x8 x9 y0 y1 y2 y3 y4 y5 y6 HK H1
 have HK:=cw
 clear cw
 obtain⟨x0,x1,x2,x3,x4,x5,x6,x7,x8,x9⟩:=HK.out.r.cells
 obtain⟨y0,y1,y2,y3,y4,y5,y6⟩:=HK.out.k.cells
 go_wp2_with fail
 refine(H2.out _).mono ?_
 rintro e w2 ⟨rfl,hb⟩
 have cw:=hid (HK.out.next hb)
 clear hb x0 x1 x2 x3 x4 x5 x6 x7 x8 x9 y0 y1 y2 y3 y4 y5 y6 HK H2
 have HK:=cw
 clear cw
 obtain⟨x0,x1,x2,x3,x4,x5,x6,x7,x8,x9⟩:=HK.out.r.cells
 obtain⟨y0,y1,y2,y3,y4,y5,y6⟩:=HK.out.k.cells
 go_wp2_with fail
 refine(H3.out _).mono ?_
 rintro e w3 ⟨rfl,hb⟩
 have cw:=hid (HK.out.next hb)
 clear hb x0 x1 x2 x3 x4 x5 x6 x7 x8 x9 y0 y1 y2 y3 y4 y5 y6 HK H3
 have HK:=cw
 clear cw
 obtain⟨x0,x1,x2,x3,x4,x5,x6,x7,x8,x9⟩:=HK.out.r.cells
 obtain⟨y0,y1,y2,y3,y4,y5,y6⟩:=HK.out.k.cells
 go_wp2_with fail
 refine(H4.out _).mono ?_
 rintro e w4 ⟨rfl,hb⟩
 have cw:=hid (HK.out.next hb)
 clear hb x0 x1 x2 x3 x4 x5 x6 x7 x8 x9 y0 y1 y2 y3 y4 y5 y6 HK H4
 have HK:=cw
 clear cw
 obtain⟨x0,x1,x2,x3,x4,x5,x6,x7,x8,x9⟩:=HK.out.r.cells
 obtain⟨y0,y1,y2,y3,y4,y5,y6⟩:=HK.out.k.cells
 cases b2 <;> cases b4 <;> (go_wp2_with fail;go_ret;exact⟨aR (by rw[HR.out];rfl),HK.out.r.az⟩)
theorem Ia(r:R)(k:K)(ho:r.Ok)(hk:k.Ok)(w:World)(hp:r.pr≠0)(hq:r.pr=k.pr)(b2 b4:Bool)(h1:de r.sa r.sb k.sr=true)(h2:de r.da r.db k.ds=b2)(h3:l_ r.sl r.sh k.sp=false)(h4:l_ r.dl r.dh k.dp=b4) :
  Calls Tryz.prog 251 #[.agg #[.bool r.acc,.int .u8 (r.pr:Int),.int .u32 (r.sa:Int),.int .i64 r.sb,.int .u32 (r.da:Int),.int .i64 r.db,.int .u16 (r.sl:Int),.int .u16 (r.sh:Int),.int .u16 (r.dl:Int),.int .u16 (r.dh:Int)],.agg #[.int .u8 (k.pr:Int),.int .u32 (k.sr:Int),.int .u32 (k.ds:Int),.int .u16 (k.sp:Int),.int .u16 (k.dp:Int),.int .u8 (k.fl:Int),.int .u8 (k.kd:Int)]] w λe w'=>e = .returned (.bool (cE r k))/\Below w.heap.size w w':=by
 have HR:Hid (cE r k=(true&&((true&&b2)&&(false&&b4)))):=by
  show _=_;unfold cE;rw[h1,h2,h3,h4,fo hp,decide_eq_true hq]
 have H1:=hid (λW=>bK r.sa k.sr r.sb ho.sa hk.sr W)
 have H2:=hid (λW=>bK r.da k.ds r.db ho.da hk.ds W)
 have H3:=hid (λW=>aC r.sl r.sh k.sp W)
 have H4:=hid (λW=>aC r.dl r.dh k.dp W)
 rw[h1]at H1;rw[h2]at H2;rw[h3]at H3;rw[h4]at H4
 have d0:((r.pr:Int)==0)=false:=by rw[beq_eq_false_iff_ne];omega
 have d1:((r.pr:Int)==(k.pr:Int))=true:=by rw[hq];exact beq_self_eq_true _
 have HK:=hid (Two.box w r k)
 clear hq
 clear ho hk h1 h2 h3 h4 hp
 obtain⟨x0,x1,x2,x3,x4,x5,x6,x7,x8,x9⟩:=HK.out.r.cells
 obtain⟨y0,y1,y2,y3,y4,y5,y6⟩:=HK.out.k.cells
 go_in
 go_wp2_with fail
 refine(H1.out _).mono ?_
 rintro e w1 ⟨rfl,hb⟩
 have cw:=hid (HK.out.next hb)
 clear hb x0 x1 x2 x3 x4 x5 x6 x7 x8 x9 y0 y1 y2 y3 y4 y5 y6 HK H1
 have HK:=cw
 clear cw
 obtain⟨x0,x1,x2,x3,x4,x5,x6,x7,x8,x9⟩:=HK.out.r.cells
 obtain⟨y0,y1,y2,y3,y4,y5,y6⟩:=HK.out.k.cells
 go_wp2_with fail
 refine(H2.out _).mono ?_
 rintro e w2 ⟨rfl,hb⟩
 have cw:=hid (HK.out.next hb)
 clear hb x0 x1 x2 x3 x4 x5 x6 x7 x8 x9 y0 y1 y2 y3 y4 y5 y6 HK H2
 have HK:=cw
 clear cw
 obtain⟨x0,x1,x2,x3,x4,x5,x6,x7,x8,x9⟩:=HK.out.r.cells
 obtain⟨y0,y1,y2,y3,y4,y5,y6⟩:=HK.out.k.cells
 go_wp2_with fail
 refine(H3.out _).mono ?_
 rintro e w3 ⟨rfl,hb⟩
 have cw:=hid (HK.out.next hb)
 clear hb x0 x1 x2 x3 x4 x5 x6 x7 x8 x9 y0 y1 y2 y3 y4 y5 y6 HK H3
 have HK:=cw
 clear cw
 obtain⟨x0,x1,x2,x3,x4,x5,x6,x7,x8,x9⟩:=HK.out.r.cells
 obtain⟨y0,y1,y2,y3,y4,y5,y6⟩:=HK.out.k.cells
 cases b2 <;> cases b4 <;> (go_wp2_with fail;go_ret;exact⟨aR (by rw[HR.out];rfl),HK.out.r.az⟩)
theorem Ib(r:R)(k:K)(ho:r.Ok)(hk:k.Ok)(w:World)(hp:r.pr≠0)(hq:r.pr=k.pr)(b2 b4:Bool)(h1:de r.sa r.sb k.sr=false)(h2:de r.da r.db k.ds=b2)(h3:l_ r.sl r.sh k.sp=true)(h4:l_ r.dl r.dh k.dp=b4) :
  Calls Tryz.prog 251 #[.agg #[.bool r.acc,.int .u8 (r.pr:Int),.int .u32 (r.sa:Int),.int .i64 r.sb,.int .u32 (r.da:Int),.int .i64 r.db,.int .u16 (r.sl:Int),.int .u16 (r.sh:Int),.int .u16 (r.dl:Int),.int .u16 (r.dh:Int)],.agg #[.int .u8 (k.pr:Int),.int .u32 (k.sr:Int),.int .u32 (k.ds:Int),.int .u16 (k.sp:Int),.int .u16 (k.dp:Int),.int .u8 (k.fl:Int),.int .u8 (k.kd:Int)]] w λe w'=>e = .returned (.bool (cE r k))/\Below w.heap.size w w':=by
 have HR:Hid (cE r k=(true&&((false&&b2)&&(true&&b4)))):=by
  show _=_;unfold cE;rw[h1,h2,h3,h4,fo hp,decide_eq_true hq]
 have H1:=hid (λW=>bK r.sa k.sr r.sb ho.sa hk.sr W)
 have H2:=hid (λW=>bK r.da k.ds r.db ho.da hk.ds W)
 have H3:=hid (λW=>aC r.sl r.sh k.sp W)
 have H4:=hid (λW=>aC r.dl r.dh k.dp W)
 rw[h1]at H1;rw[h2]at H2;rw[h3]at H3;rw[h4]at H4
 have d0:((r.pr:Int)==0)=false:=by rw[beq_eq_false_iff_ne];omega
 have d1:((r.pr:Int)==(k.pr:Int))=true:=by rw[hq];exact beq_self_eq_true _
 have HK:=hid (Two.box w r k)
 clear hq
 clear ho hk h1 h2 h3 h4 hp
 obtain⟨x0,x1,x2,x3,x4,x5,x6,x7,x8,x9⟩:=HK.out.r.cells
 obtain⟨y0,y1,y2,y3,y4,y5,y6⟩:=HK.out.k.cells
 go_in
 go_wp2_with fail
 refine(H1.out _).mono ?_
 rintro e w1 ⟨rfl,hb⟩
 have cw:=hid (HK.out.next hb)
 clear hb x0 x1 x2 x3 x4 x5 x6 x7 x8 x9 y0 y1 y2 y3 y4 y5 y6 HK H1
 have HK:=cw
 clear cw
 obtain⟨x0,x1,x2,x3,x4,x5,x6,x7,x8,x9⟩:=HK.out.r.cells
 obtain⟨y0,y1,y2,y3,y4,y5,y6⟩:=HK.out.k.cells
 go_wp2_with fail
 refine(H3.out _).mono ?_
 rintro e w3 ⟨rfl,hb⟩
 have cw:=hid (HK.out.next hb)
 clear hb x0 x1 x2 x3 x4 x5 x6 x7 x8 x9 y0 y1 y2 y3 y4 y5 y6 HK H3
 have HK:=cw
 clear cw
 obtain⟨x0,x1,x2,x3,x4,x5,x6,x7,x8,x9⟩:=HK.out.r.cells
 obtain⟨y0,y1,y2,y3,y4,y5,y6⟩:=HK.out.k.cells
 go_wp2_with fail
 refine(H4.out _).mono ?_
 rintro e w4 ⟨rfl,hb⟩
 have cw:=hid (HK.out.next hb)
 clear hb x0 x1 x2 x3 x4 x5 x6 x7 x8 x9 y0 y1 y2 y3 y4 y5 y6 HK H4
 have HK:=cw
 clear cw
 obtain⟨x0,x1,x2,x3,x4,x5,x6,x7,x8,x9⟩:=HK.out.r.cells
 obtain⟨y0,y1,y2,y3,y4,y5,y6⟩:=HK.out.k.cells
 cases b2 <;> cases b4 <;> (go_wp2_with fail;go_ret;exact⟨aR (by rw[HR.out];rfl),HK.out.r.az⟩)
theorem Ie(r:R)(k:K)(ho:r.Ok)(hk:k.Ok)(w:World)(hp:r.pr≠0)(hq:r.pr=k.pr)(b2 b4:Bool)(h1:de r.sa r.sb k.sr=false)(h2:de r.da r.db k.ds=b2)(h3:l_ r.sl r.sh k.sp=false)(h4:l_ r.dl r.dh k.dp=b4) :
  Calls Tryz.prog 251 #[.agg #[.bool r.acc,.int .u8 (r.pr:Int),.int .u32 (r.sa:Int),.int .i64 r.sb,.int .u32 (r.da:Int),.int .i64 r.db,.int .u16 (r.sl:Int),.int .u16 (r.sh:Int),.int .u16 (r.dl:Int),.int .u16 (r.dh:Int)],.agg #[.int .u8 (k.pr:Int),.int .u32 (k.sr:Int),.int .u32 (k.ds:Int),.int .u16 (k.sp:Int),.int .u16 (k.dp:Int),.int .u8 (k.fl:Int),.int .u8 (k.kd:Int)]] w λe w'=>e = .returned (.bool (cE r k))/\Below w.heap.size w w':=by
 have HR:Hid (cE r k=(true&&((false&&b2)&&(false&&b4)))):=by
  show _=_;unfold cE;rw[h1,h2,h3,h4,fo hp,decide_eq_true hq]
 have H1:=hid (λW=>bK r.sa k.sr r.sb ho.sa hk.sr W)
 have H2:=hid (λW=>bK r.da k.ds r.db ho.da hk.ds W)
 have H3:=hid (λW=>aC r.sl r.sh k.sp W)
 have H4:=hid (λW=>aC r.dl r.dh k.dp W)
 rw[h1]at H1;rw[h2]at H2;rw[h3]at H3;rw[h4]at H4
 have d0:((r.pr:Int)==0)=false:=by rw[beq_eq_false_iff_ne];omega
 have d1:((r.pr:Int)==(k.pr:Int))=true:=by rw[hq];exact beq_self_eq_true _
 have HK:=hid (Two.box w r k)
 clear hq
 clear ho hk h1 h2 h3 h4 hp
 obtain⟨x0,x1,x2,x3,x4,x5,x6,x7,x8,x9⟩:=HK.out.r.cells
 obtain⟨y0,y1,y2,y3,y4,y5,y6⟩:=HK.out.k.cells
 go_in
 go_wp2_with fail
 refine(H1.out _).mono ?_
 rintro e w1 ⟨rfl,hb⟩
 have cw:=hid (HK.out.next hb)
 clear hb x0 x1 x2 x3 x4 x5 x6 x7 x8 x9 y0 y1 y2 y3 y4 y5 y6 HK H1
 have HK:=cw
 clear cw
 obtain⟨x0,x1,x2,x3,x4,x5,x6,x7,x8,x9⟩:=HK.out.r.cells
 obtain⟨y0,y1,y2,y3,y4,y5,y6⟩:=HK.out.k.cells
 go_wp2_with fail
 refine(H3.out _).mono ?_
 rintro e w3 ⟨rfl,hb⟩
 have cw:=hid (HK.out.next hb)
 clear hb x0 x1 x2 x3 x4 x5 x6 x7 x8 x9 y0 y1 y2 y3 y4 y5 y6 HK H3
 have HK:=cw
 clear cw
 obtain⟨x0,x1,x2,x3,x4,x5,x6,x7,x8,x9⟩:=HK.out.r.cells
 obtain⟨y0,y1,y2,y3,y4,y5,y6⟩:=HK.out.k.cells
 cases b2 <;> cases b4 <;> (go_wp2_with fail;go_ret;exact⟨aR (by rw[HR.out];rfl),HK.out.r.az⟩)
theorem Ig(r:R)(k:K)(ho:r.Ok)(hk:k.Ok)(w:World)(hp:r.pr≠0)(hq : ¬r.pr=k.pr)(b2 b4:Bool)(h1:de r.sa r.sb k.sr=true)(h2:de r.da r.db k.ds=b2)(h3:l_ r.sl r.sh k.sp=true)(h4:l_ r.dl r.dh k.dp=b4) :
  Calls Tryz.prog 251 #[.agg #[.bool r.acc,.int .u8 (r.pr:Int),.int .u32 (r.sa:Int),.int .i64 r.sb,.int .u32 (r.da:Int),.int .i64 r.db,.int .u16 (r.sl:Int),.int .u16 (r.sh:Int),.int .u16 (r.dl:Int),.int .u16 (r.dh:Int)],.agg #[.int .u8 (k.pr:Int),.int .u32 (k.sr:Int),.int .u32 (k.ds:Int),.int .u16 (k.sp:Int),.int .u16 (k.dp:Int),.int .u8 (k.fl:Int),.int .u8 (k.kd:Int)]] w λe w'=>e = .returned (.bool (cE r k))/\Below w.heap.size w w':=by
 have HR:Hid (cE r k=(false&&((true&&b2)&&(true&&b4)))):=by
  show _=_;unfold cE;rw[h1,h2,h3,h4,fo hp,decide_eq_false hq]
 have H1:=hid (λW=>bK r.sa k.sr r.sb ho.sa hk.sr W)
 have H2:=hid (λW=>bK r.da k.ds r.db ho.da hk.ds W)
 have H3:=hid (λW=>aC r.sl r.sh k.sp W)
 have H4:=hid (λW=>aC r.dl r.dh k.dp W)
 rw[h1]at H1;rw[h2]at H2;rw[h3]at H3;rw[h4]at H4
 have d0:((r.pr:Int)==0)=false:=by rw[beq_eq_false_iff_ne];omega
 have d1:((r.pr:Int)==(k.pr:Int))=false:=by rw[beq_eq_false_iff_ne];omega
 have HK:=hid (Two.box w r k)
 clear hq
 clear ho hk h1 h2 h3 h4 hp
 obtain⟨x0,x1,x2,x3,x4,x5,x6,x7,x8,x9⟩:=HK.out.r.cells
 obtain⟨y0,y1,y2,y3,y4,y5,y6⟩:=HK.out.k.cells
 go_in
 go_wp2_with fail
 refine(H1.out _).mono ?_
 rintro e w1 ⟨rfl,hb⟩
 have cw:=hid (HK.out.next hb)
 clear hb x0 x1 x2 x3 x4 x5 x6 x7 x8 x9 y0 y1 y2 y3 y4 y5 y6 HK H1
 have HK:=cw
 clear cw
 obtain⟨x0,x1,x2,x3,x4,x5,x6,x7,x8,x9⟩:=HK.out.r.cells
 obtain⟨y0,y1,y2,y3,y4,y5,y6⟩:=HK.out.k.cells
 go_wp2_with fail
 refine(H2.out _).mono ?_
 rintro e w2 ⟨rfl,hb⟩
 have cw:=hid (HK.out.next hb)
 clear hb x0 x1 x2 x3 x4 x5 x6 x7 x8 x9 y0 y1 y2 y3 y4 y5 y6 HK H2
 have HK:=cw
 clear cw
 obtain⟨x0,x1,x2,x3,x4,x5,x6,x7,x8,x9⟩:=HK.out.r.cells
 obtain⟨y0,y1,y2,y3,y4,y5,y6⟩:=HK.out.k.cells
 go_wp2_with fail
 refine(H3.out _).mono ?_
 rintro e w3 ⟨rfl,hb⟩
 have cw:=hid (HK.out.next hb)
 clear hb x0 x1 x2 x3 x4 x5 x6 x7 x8 x9 y0 y1 y2 y3 y4 y5 y6 HK H3
 have HK:=cw
 clear cw
 obtain⟨x0,x1,x2,x3,x4,x5,x6,x7,x8,x9⟩:=HK.out.r.cells
 obtain⟨y0,y1,y2,y3,y4,y5,y6⟩:=HK.out.k.cells
 go_wp2_with fail
 refine(H4.out _).mono ?_
 rintro e w4 ⟨rfl,hb⟩
 have cw:=hid (HK.out.next hb)
 clear hb x0 x1 x2 x3 x4 x5 x6 x7 x8 x9 y0 y1 y2 y3 y4 y5 y6 HK H4
 have HK:=cw
 clear cw
 obtain⟨x0,x1,x2,x3,x4,x5,x6,x7,x8,x9⟩:=HK.out.r.cells
 obtain⟨y0,y1,y2,y3,y4,y5,y6⟩:=HK.out.k.cells
 cases b2 <;> cases b4 <;> (go_wp2_with fail;go_ret;exact⟨aR (by rw[HR.out];rfl),HK.out.r.az⟩)
theorem Ih(r:R)(k:K)(ho:r.Ok)(hk:k.Ok)(w:World)(hp:r.pr≠0)(hq : ¬r.pr=k.pr)(b2 b4:Bool)(h1:de r.sa r.sb k.sr=true)(h2:de r.da r.db k.ds=b2)(h3:l_ r.sl r.sh k.sp=false)(h4:l_ r.dl r.dh k.dp=b4) :
  Calls Tryz.prog 251 #[.agg #[.bool r.acc,.int .u8 (r.pr:Int),.int .u32 (r.sa:Int),.int .i64 r.sb,.int .u32 (r.da:Int),.int .i64 r.db,.int .u16 (r.sl:Int),.int .u16 (r.sh:Int),.int .u16 (r.dl:Int),.int .u16 (r.dh:Int)],.agg #[.int .u8 (k.pr:Int),.int .u32 (k.sr:Int),.int .u32 (k.ds:Int),.int .u16 (k.sp:Int),.int .u16 (k.dp:Int),.int .u8 (k.fl:Int),.int .u8 (k.kd:Int)]] w λe w'=>e = .returned (.bool (cE r k))/\Below w.heap.size w w':=by
 have HR:Hid (cE r k=(false&&((true&&b2)&&(false&&b4)))):=by
  show _=_;unfold cE;rw[h1,h2,h3,h4,fo hp,decide_eq_false hq]
 have H1:=hid (λW=>bK r.sa k.sr r.sb ho.sa hk.sr W)
 have H2:=hid (λW=>bK r.da k.ds r.db ho.da hk.ds W)
 have H3:=hid (λW=>aC r.sl r.sh k.sp W)
 have H4:=hid (λW=>aC r.dl r.dh k.dp W)
 rw[h1]at H1;rw[h2]at H2;rw[h3]at H3;rw[h4]at H4
 have d0:((r.pr:Int)==0)=false:=by rw[beq_eq_false_iff_ne];omega
 have d1:((r.pr:Int)==(k.pr:Int))=false:=by rw[beq_eq_false_iff_ne];omega
 have HK:=hid (Two.box w r k)
 clear hq
 clear ho hk h1 h2 h3 h4 hp
 obtain⟨x0,x1,x2,x3,x4,x5,x6,x7,x8,x9⟩:=HK.out.r.cells
 obtain⟨y0,y1,y2,y3,y4,y5,y6⟩:=HK.out.k.cells
 go_in
 go_wp2_with fail
 refine(H1.out _).mono ?_
 rintro e w1 ⟨rfl,hb⟩
 have cw:=hid (HK.out.next hb)
 clear hb x0 x1 x2 x3 x4 x5 x6 x7 x8 x9 y0 y1 y2 y3 y4 y5 y6 HK H1
 have HK:=cw
 clear cw
 obtain⟨x0,x1,x2,x3,x4,x5,x6,x7,x8,x9⟩:=HK.out.r.cells
 obtain⟨y0,y1,y2,y3,y4,y5,y6⟩:=HK.out.k.cells
 go_wp2_with fail
 refine(H2.out _).mono ?_
 rintro e w2 ⟨rfl,hb⟩
 have cw:=hid (HK.out.next hb)
 clear hb x0 x1 x2 x3 x4 x5 x6 x7 x8 x9 y0 y1 y2 y3 y4 y5 y6 HK H2
 have HK:=cw
 clear cw
 obtain⟨x0,x1,x2,x3,x4,x5,x6,x7,x8,x9⟩:=HK.out.r.cells
 obtain⟨y0,y1,y2,y3,y4,y5,y6⟩:=HK.out.k.cells
 go_wp2_with fail
 refine(H3.out _).mono ?_
 rintro e w3 ⟨rfl,hb⟩
 have cw:=hid (HK.out.next hb)
 clear hb x0 x1 x2 x3 x4 x5 x6 x7 x8 x9 y0 y1 y2 y3 y4 y5 y6 HK H3
 have HK:=cw
 clear cw
 obtain⟨x0,x1,x2,x3,x4,x5,x6,x7,x8,x9⟩:=HK.out.r.cells
 obtain⟨y0,y1,y2,y3,y4,y5,y6⟩:=HK.out.k.cells
 cases b2 <;> cases b4 <;> (go_wp2_with fail;go_ret;exact⟨aR (by rw[HR.out];rfl),HK.out.r.az⟩)
theorem D2(r:R)(k:K)(ho:r.Ok)(hk:k.Ok)(w:World)(hp:r.pr≠0)(hq : ¬r.pr=k.pr)(b2 b4:Bool)(h1:de r.sa r.sb k.sr=false)(h2:de r.da r.db k.ds=b2)(h3:l_ r.sl r.sh k.sp=true)(h4:l_ r.dl r.dh k.dp=b4) :
  Calls Tryz.prog 251 #[.agg #[.bool r.acc,.int .u8 (r.pr:Int),.int .u32 (r.sa:Int),.int .i64 r.sb,.int .u32 (r.da:Int),.int .i64 r.db,.int .u16 (r.sl:Int),.int .u16 (r.sh:Int),.int .u16 (r.dl:Int),.int .u16 (r.dh:Int)],.agg #[.int .u8 (k.pr:Int),.int .u32 (k.sr:Int),.int .u32 (k.ds:Int),.int .u16 (k.sp:Int),.int .u16 (k.dp:Int),.int .u8 (k.fl:Int),.int .u8 (k.kd:Int)]] w λe w'=>e = .returned (.bool (cE r k))/\Below w.heap.size w w':=by
 have HR:Hid (cE r k=(false&&((false&&b2)&&(true&&b4)))):=by
  show _=_;unfold cE;rw[h1,h2,h3,h4,fo hp,decide_eq_false hq]
 have H1:=hid (λW=>bK r.sa k.sr r.sb ho.sa hk.sr W)
 have H2:=hid (λW=>bK r.da k.ds r.db ho.da hk.ds W)
 have H3:=hid (λW=>aC r.sl r.sh k.sp W)
 have H4:=hid (λW=>aC r.dl r.dh k.dp W)
 rw[h1]at H1;rw[h2]at H2;rw[h3]at H3;rw[h4]at H4
 have d0:((r.pr:Int)==0)=false:=by rw[beq_eq_false_iff_ne];omega
 have d1:((r.pr:Int)==(k.pr:Int))=false:=by rw[beq_eq_false_iff_ne];omega
 have HK:=hid (Two.box w r k)
 clear hq
 clear ho hk h1 h2 h3 h4 hp
 obtain⟨x0,x1,x2,x3,x4,x5,x6,x7,x8,x9⟩:=HK.out.r.cells
 obtain⟨y0,y1,y2,y3,y4,y5,y6⟩:=HK.out.k.cells
 go_in
 go_wp2_with fail
 refine(H1.out _).mono ?_
 rintro e w1 ⟨rfl,hb⟩
 have cw:=hid (HK.out.next hb)
 clear hb x0 x1 x2 x3 x4 x5 x6 x7 x8 x9 y0 y1 y2 y3 y4 y5 y6 HK H1
 have HK:=cw
 clear cw
 obtain⟨x0,x1,x2,x3,x4,x5,x6,x7,x8,x9⟩:=HK.out.r.cells
 obtain⟨y0,y1,y2,y3,y4,y5,y6⟩:=HK.out.k.cells
 go_wp2_with fail
 refine(H3.out _).mono ?_
 rintro e w3 ⟨rfl,hb⟩
 have cw:=hid (HK.out.next hb)
 clear hb x0 x1 x2 x3 x4 x5 x6 x7 x8 x9 y0 y1 y2 y3 y4 y5 y6 HK H3
 have HK:=cw
 clear cw
 obtain⟨x0,x1,x2,x3,x4,x5,x6,x7,x8,x9⟩:=HK.out.r.cells
 obtain⟨y0,y1,y2,y3,y4,y5,y6⟩:=HK.out.k.cells
 go_wp2_with fail
 refine(H4.out _).mono ?_
 rintro e w4 ⟨rfl,hb⟩
 have cw:=hid (HK.out.next hb)
 clear hb x0 x1 x2 x3 x4 x5 x6 x7 x8 x9 y0 y1 y2 y3 y4 y5 y6 HK H4
 have HK:=cw
 clear cw
 obtain⟨x0,x1,x2,x3,x4,x5,x6,x7,x8,x9⟩:=HK.out.r.cells
 obtain⟨y0,y1,y2,y3,y4,y5,y6⟩:=HK.out.k.cells
 cases b2 <;> cases b4 <;> (go_wp2_with fail;go_ret;exact⟨aR (by rw[HR.out];rfl),HK.out.r.az⟩)
theorem D3(r:R)(k:K)(ho:r.Ok)(hk:k.Ok)(w:World)(hp:r.pr≠0)(hq : ¬r.pr=k.pr)(b2 b4:Bool)(h1:de r.sa r.sb k.sr=false)(h2:de r.da r.db k.ds=b2)(h3:l_ r.sl r.sh k.sp=false)(h4:l_ r.dl r.dh k.dp=b4) :
  Calls Tryz.prog 251 #[.agg #[.bool r.acc,.int .u8 (r.pr:Int),.int .u32 (r.sa:Int),.int .i64 r.sb,.int .u32 (r.da:Int),.int .i64 r.db,.int .u16 (r.sl:Int),.int .u16 (r.sh:Int),.int .u16 (r.dl:Int),.int .u16 (r.dh:Int)],.agg #[.int .u8 (k.pr:Int),.int .u32 (k.sr:Int),.int .u32 (k.ds:Int),.int .u16 (k.sp:Int),.int .u16 (k.dp:Int),.int .u8 (k.fl:Int),.int .u8 (k.kd:Int)]] w λe w'=>e = .returned (.bool (cE r k))/\Below w.heap.size w w':=by
 have HR:Hid (cE r k=(false&&((false&&b2)&&(false&&b4)))):=by
  show _=_;unfold cE;rw[h1,h2,h3,h4,fo hp,decide_eq_false hq]
 have H1:=hid (λW=>bK r.sa k.sr r.sb ho.sa hk.sr W)
 have H2:=hid (λW=>bK r.da k.ds r.db ho.da hk.ds W)
 have H3:=hid (λW=>aC r.sl r.sh k.sp W)
 have H4:=hid (λW=>aC r.dl r.dh k.dp W)
 rw[h1]at H1;rw[h2]at H2;rw[h3]at H3;rw[h4]at H4
 have d0:((r.pr:Int)==0)=false:=by rw[beq_eq_false_iff_ne];omega
 have d1:((r.pr:Int)==(k.pr:Int))=false:=by rw[beq_eq_false_iff_ne];omega
 have HK:=hid (Two.box w r k)
 clear hq
 clear ho hk h1 h2 h3 h4 hp
 obtain⟨x0,x1,x2,x3,x4,x5,x6,x7,x8,x9⟩:=HK.out.r.cells
 obtain⟨y0,y1,y2,y3,y4,y5,y6⟩:=HK.out.k.cells
 go_in
 go_wp2_with fail
 refine(H1.out _).mono ?_
 rintro e w1 ⟨rfl,hb⟩
 have cw:=hid (HK.out.next hb)
 clear hb x0 x1 x2 x3 x4 x5 x6 x7 x8 x9 y0 y1 y2 y3 y4 y5 y6 HK H1
 have HK:=cw
 clear cw
 obtain⟨x0,x1,x2,x3,x4,x5,x6,x7,x8,x9⟩:=HK.out.r.cells
 obtain⟨y0,y1,y2,y3,y4,y5,y6⟩:=HK.out.k.cells
 go_wp2_with fail
 refine(H3.out _).mono ?_
 rintro e w3 ⟨rfl,hb⟩
 have cw:=hid (HK.out.next hb)
 clear hb x0 x1 x2 x3 x4 x5 x6 x7 x8 x9 y0 y1 y2 y3 y4 y5 y6 HK H3
 have HK:=cw
 clear cw
 obtain⟨x0,x1,x2,x3,x4,x5,x6,x7,x8,x9⟩:=HK.out.r.cells
 obtain⟨y0,y1,y2,y3,y4,y5,y6⟩:=HK.out.k.cells
 cases b2 <;> cases b4 <;> (go_wp2_with fail;go_ret;exact⟨aR (by rw[HR.out];rfl),HK.out.r.az⟩)
theorem Cb(r:R)(k:K)(ho:r.Ok)(hk:k.Ok)(w:World) :
  Calls Tryz.prog 251 #[.agg #[.bool r.acc,.int .u8 (r.pr:Int),.int .u32 (r.sa:Int),.int .i64 r.sb,.int .u32 (r.da:Int),.int .i64 r.db,.int .u16 (r.sl:Int),.int .u16 (r.sh:Int),.int .u16 (r.dl:Int),.int .u16 (r.dh:Int)],.agg #[.int .u8 (k.pr:Int),.int .u32 (k.sr:Int),.int .u32 (k.ds:Int),.int .u16 (k.sp:Int),.int .u16 (k.dp:Int),.int .u8 (k.fl:Int),.int .u8 (k.kd:Int)]] w λe w'=>e = .returned (.bool (cE r k))/\Below w.heap.size w w':=by
 by_cases hp:r.pr=0
 ·cases h1:de r.sa r.sb k.sr <;> cases h3:l_ r.sl r.sh k.sp
  ·exact Hz r k ho hk w hp _ _ h1 rfl h3 rfl
  ·exact Hy r k ho hk w hp _ _ h1 rfl h3 rfl
  ·exact Hx r k ho hk w hp _ _ h1 rfl h3 rfl
  ·exact Hw r k ho hk w hp _ _ h1 rfl h3 rfl
 ·by_cases hq:r.pr=k.pr
  ·cases h1:de r.sa r.sb k.sr <;> cases h3:l_ r.sl r.sh k.sp
   ·exact Ie r k ho hk w hp hq _ _ h1 rfl h3 rfl
   ·exact Ib r k ho hk w hp hq _ _ h1 rfl h3 rfl
   ·exact Ia r k ho hk w hp hq _ _ h1 rfl h3 rfl
   ·exact H_ r k ho hk w hp hq _ _ h1 rfl h3 rfl
  ·cases h1:de r.sa r.sb k.sr <;> cases h3:l_ r.sl r.sh k.sp
   ·exact D3 r k ho hk w hp hq _ _ h1 rfl h3 rfl
   ·exact D2 r k ho hk w hp hq _ _ h1 rfl h3 rfl
   ·exact Ih r k ho hk w hp hq _ _ h1 rfl h3 rfl
   ·exact Ig r k ho hk w hp hq _ _ h1 rfl h3 rfl
end Ma
end Go.Proofs.YtbhnbcadgmagpaaGreatDoor
namespace Go.Proofs.YtbhnbcadgmagpaaGreatDoor
open Go.ChangeShapes Go.WideShapes Go.ChangeAt Go.RowKit Go.aN Go.Lib Go.Shelf
namespace Ma
open aE (R)
open iw (K cE fst rp j3 yF uw ux yG)
def TC(w:World)(b o:Nat)(r:R):Prop :=
 w.cell? ⟨b,o,none⟩=some (.bool r.acc)/\w.cell? ⟨b,o+1,none⟩=some (.int .u8 (r.pr:Int))/\w.cell? ⟨b,o+2,none⟩=some (.int .u32 (r.sa:Int))/\w.cell? ⟨b,o+3,none⟩=some (.int .i64 r.sb)/\w.cell? ⟨b,o+4,none⟩=some (.int .u32 (r.da:Int)) ∧
  w.cell? ⟨b,o+5,none⟩=some (.int .i64 r.db)/\w.cell? ⟨b,o+6,none⟩=some (.int .u16 (r.sl:Int))/\w.cell? ⟨b,o+7,none⟩=some (.int .u16 (r.sh:Int))/\w.cell? ⟨b,o+8,none⟩=some (.int .u16 (r.dl:Int))/\w.cell? ⟨b,o+9,none⟩=some (.int .u16 (r.dh:Int))
theorem TC.below{w w':World}{b o:Nat}{r:R}(h:TC w b o r)(hb:Below w.heap.size w w')(hlt:b<w.heap.size):TC w' b o r:=by
 obtain⟨h0,h1,h2,h3,h4,h5,h6,h7,h8,h9⟩:=h;exact⟨(hb.cell hlt).trans h0,(hb.cell hlt).trans h1,(hb.cell hlt).trans h2,(hb.cell hlt).trans h3,(hb.cell hlt).trans h4,(hb.cell hlt).trans h5,(hb.cell hlt).trans h6,(hb.cell hlt).trans h7,(hb.cell hlt).trans h8,(hb.cell hlt).trans h9⟩
theorem zF{w:World}{B:Nat}{v:Value}{rs:List R}(h:gK w B v rs){i:Nat}{r:R}(hk:rs[i]? = some r):∃b off cap,v = .slice (some ⟨b,off,none⟩) rs.length cap/\b<B/\TC w b (off+i*10) r:=by
 obtain⟨b,off,cap,h1,h2,h3⟩:=h.at_ hk
 refine⟨b,off,cap,h1,h2,h3 0 _ rfl,?_,?_,?_,?_,?_,?_,?_,?_,?_⟩ <;> rw[Nat.add_assoc]
 ·exact h3 1 _ rfl
 ·exact h3 2 _ rfl
 ·exact h3 3 _ rfl
 ·exact h3 4 _ rfl
 ·exact h3 5 _ rfl
 ·exact h3 6 _ rfl
 ·exact h3 7 _ rfl
 ·exact h3 8 _ rfl
 ·exact h3 9 _ rfl
theorem LR(r:R)(k:K)(ho:r.Ok)(hk:k.Ok)(B:Nat)(W:World)(hB:aF W B (pK k) 95) :
  Calls Tryz.prog 250 #[.agg #[.bool r.acc,.int .u8 (r.pr:Int),.int .u32 (r.sa:Int),.int .i64 r.sb,.int .u32 (r.da:Int),.int .i64 r.db,.int .u16 (r.sl:Int),.int .u16 (r.sh:Int),.int .u16 (r.dl:Int),.int .u16 (r.dh:Int)],.pointer (some ⟨B,0,none⟩)] W
   λe w'=>e = .returned (.bool (cE r k))/\Below W.heap.size W w':=by
 have HM:=hid (λW=>Cb r k ho hk W)
 have HR:=hid (eD.box W r)
 obtain⟨y0,y1,y2,y3,y4,y5,y6⟩:(W.alloc (.cells (rK r) 80)).cell? ⟨B,0,none⟩=some (.int .u8 (k.pr:Int))/\(W.alloc (.cells (rK r) 80)).cell? ⟨B,1,none⟩=some (.int .u32 (k.sr:Int))/\(W.alloc (.cells (rK r) 80)).cell? ⟨B,2,none⟩=some (.int .u32 (k.ds:Int))/\(W.alloc (.cells (rK r) 80)).cell? ⟨B,3,none⟩=some (.int .u16 (k.sp:Int)) ∧
  (W.alloc (.cells (rK r) 80)).cell? ⟨B,4,none⟩=some (.int .u16 (k.dp:Int))/\(W.alloc (.cells (rK r) 80)).cell? ⟨B,5,none⟩=some (.int .u8 (k.fl:Int))/\(W.alloc (.cells (rK r) 80)).cell? ⟨B,6,none⟩=some (.int .u8 (k.kd:Int)):=LP.cells (w:=W) ⟨hB.alloc _,ae _ _⟩
 obtain⟨x0,x1,x2,x3,x4,x5,x6,x7,x8,x9⟩:=HR.out.cells
 clear ho hk hB
 go_in
 go_wp2_with fail
 refine(HM.out _).mono ?_
 rintro e w1 ⟨rfl,hb⟩
 have HB:=hid (HR.out.next hb)
 clear hb x0 x1 x2 x3 x4 x5 x6 x7 x8 x9 y0 y1 y2 y3 y4 y5 y6
 go_wp2_with fail
 go_ret
 exact⟨rfl,HB.out.az⟩
theorem rQ(A:Option Addr)(n c:Nat)(rs:List R)(k:K)(hk:k.Ok)(B:Nat)(w:World)(hn:rs.length=n)(hr:gK w w.heap.size (.slice A n c) rs)(ho:∀r∈rs,r.Ok)(hB:aF w B (pK k) 95)(hm:n<=maxLen) :
  Calls Tryz.prog 249 #[.slice A n c,.func (.func 250) #[] #[.pointer (some ⟨B,0,none⟩)]] w
   λe w'=>e = .returned (.int .i64 (rp (fst k rs)))/\Below w.heap.size w w':=by
 have eg:∀args w,(callFunc 250 args).run Tryz.prog w = .ok (.enter 250 args) w:=enters_of Tryz.func250 zk rfl
 have HO:=hid ho
 have TD:=hid hr
 have HN:=hid hn
 have HB:=hid hB
 have S6:=hid hk
 unfold maxLen at hm
 clear ho hr hn hB hk
 go_in
 go_wp2_with fail
 go_loopw [5,8] (λ_ i wr=>∃j:Nat,j<=n/\i = .int .i64 (j:Int)/\Hid (Below w.heap.size w wr)/\Hid (∀(i:Nat) q,i<j->rs[i]? = some q->cE q k=false)) (λ_ i _=>n - (RowKit.intOf i).toNat)
 case atStart=>exact⟨0,by omega,rfl,Below.refl _ _,(show Hid _ from λi q hi=>absurd hi (Nat.not_lt_zero _))⟩
 case round =>
  obtain⟨j,hj,rfl,TE,Sz⟩:=hrel;by_cases hlt:j<n
  ·obtain⟨r,OH⟩:∃x,rs[j]? = some x:=⟨_,List.getElem?_eq_getElem (by have:=HN.out;omega)⟩;obtain⟨b,off,cap,hv,hg,ht⟩:=zF TD.out OH;injection hv with hv1 C2 CF;subst hv1 CF;have HP:=hid (LR r k (HO.out r (List.mem_of_getElem? OH)) S6.out B wr (HB.out.next TE.out));obtain⟨x0,x1,x2,x3,x4,x5,x6,x7,x8,x9⟩:=ht.below TE.out hg;have TF:=hid OH;clear OH ht C2
   cases hh:cE r k with
   | true =>
    rw[hh]at HP
    have HF:Hid (fst k rs=some j):=yF TF.out hh Sz.out
    clear hh
    go_wp2_with fail
    refine HP.out.mono ?_
    rintro e w1 ⟨rfl,hb⟩
    have dF:=hid (aA TE.out hb)
    clear hb x0 x1 x2 x3 x4 x5 x6 x7 x8 x9
    go_wp2_with fail
    go_ret
    exact⟨by rw[HF.out];rfl,dF.out⟩
   | false =>
    rw[hh]at HP
    have HF:Hid (∀(i:Nat) q,i<j+1->rs[i]? = some q->cE q k=false):=by
     show ∀(i:Nat) q,i<j+1->rs[i]? = some q->cE q k=false;intro i q hi hq;by_cases e:i=j
     ·subst e;rw[TF.out]at hq;injection hq with hq;rw[← hq];exact hh
     ·exact Sz.out i q zo hq
    clear hh
    go_wp2_with fail
    refine HP.out.mono ?_
    rintro e w1 ⟨rfl,hb⟩
    have dF:=hid (aA TE.out hb)
    clear hb x0 x1 x2 x3 x4 x5 x6 x7 x8 x9
    go_wp2_with fail
    go_roundw
    case rel=>exact⟨j+1,by omega,by go_num,dF,HF⟩
    case measure=>simp[RowKit.intOf];omega
  ·obtain rfl:j=n:=zo;have HF:Hid (fst k rs=none):=uw λi q hq=>Sz.out i q (by have:=(List.getElem?_eq_some_iff.1 hq).1;have:=HN.out;omega) hq;go_wp2_with fail;go_ret;exact⟨by rw[HF.out];rfl,TE.out⟩
end Ma
end Go.Proofs.YtbhnbcadgmagpaaGreatDoor
namespace Go.Proofs.YtbhnbcadgmagpaaGreatDoor
open Go.ChangeShapes Go.WideShapes Go.ChangeAt Go.RowKit Go.aN Go.Lib
namespace Ma
open aE (R)
open iw (K cE fst rp j3 yF uw ux yG)
theorem Ii(A:Option Addr)(n c:Nat)(rs:List R)(k:K)(hk:k.Ok)(w:World)(hn:rs.length=n)(hr:gK w w.heap.size (.slice A n c) rs)(ho:∀r∈rs,r.Ok)(hm:n<=maxLen) :
  Calls Tryz.prog 195 #[.slice A n c,.agg #[.int .u8 (k.pr:Int),.int .u32 (k.sr:Int),.int .u32 (k.ds:Int),.int .u16 (k.sp:Int),.int .u16 (k.dp:Int),.int .u8 (k.fl:Int),.int .u8 (k.kd:Int)]] w
   λe w'=>e = .returned (.tuple #[.int .i64 (rp (fst k rs)),.bool (j3 rs (fst k rs))])/\Below w.heap.size w w':=by
 have HK:=hid (LP.box w k)
 have HI:=hid (rQ A n c rs k hk w.heap.size (w.alloc (.cells (pK k) 95)) hn (hr.below (ae _ _)) ho (LP.box w k).blk hm)
 have TD:=hid hr
 have HN:=hid hn
 unfold maxLen at hm
 clear hk hn hr ho
 cases hf:fst k rs with
 | none =>
  rw[hf]at HI
  clear hf
  unfold rp at HI
  go_in
  go_wp2_with fail
  go_at_call 249
  refine HI.out.mono ?_
  rintro e w1 ⟨rfl,hb⟩
  have HB:=hid (HK.out.next hb)
  clear hb
  go_wp2_with fail
  go_quiet (fail)
  go_wp2_with fail
  exact bodyPost_ret (v:=.tuple #[.int .i64 (-1),.bool false]) (by simp[results,Tryz.results195,go_sem]) rfl ⟨rfl,HB.out.az.lW _⟩
 | some i =>
  rw[hf]at HI
  obtain⟨r,Re,-,-⟩:=ux hf
  have hi:=(List.getElem?_eq_some_iff.1 Re).1
  have HA:=hid (yG Re)
  obtain⟨b,off,cap,hv,hg,ht⟩:=zF TD.out Re
  injection hv with hv1 C2 CF
  subst hv1 CF
  have hin:i<n:=by have:=HN.out;omega
  have HT:=hid ht
  have HG:=hid hg
  clear hf C2 Re hi ht hg
  unfold rp at HI
  go_in
  go_wp2_with fail
  go_at_call 249
  refine HI.out.mono ?_
  rintro e w1 ⟨rfl,hb⟩
  have HB:=hid (HK.out.next hb)
  have x0:=(HT.out.below HB.out.az HG.out).1
  clear hb
  go_wp2_with fail
  go_quiet (fail)
  go_wp2_with fail
  exact bodyPost_ret (v:=.tuple #[.int .i64 (i:Int),.bool r.acc]) (by simp[results,Tryz.results195,go_sem]) rfl ⟨by rw[HA.out];rfl,HB.out.az.lW _⟩
end Ma
namespace Ma
open aE (R)
open iw (K yH)
theorem Cc(rs:List R):∀u∈aI rs,u.oneCell'=true:=by
 induction rs with
 | nil=>intro u hu;cases hu
 | cons r rs ih =>
  intro u hu
  rcases List.mem_append.1 hu with hu | hu
  ·simp[fU]at hu
   rcases hu with rfl | rfl | rfl | rfl | rfl | rfl | rfl | rfl | rfl | rfl <;> rfl
  ·exact ih u hu
abbrev zR:Array Value:=#[.bool false,.int .u8 0,.int .u32 0,.int .i64 0,.int .u32 0,.int .i64 0,.int .u16 0,.int .u16 0,.int .u16 0,.int .u16 0]
theorem rR:(Tryz.prog.info? 80).map (λi=>(i.zero,i.size,i.bytes))=some (some (.agg zR),10,48):=zk
theorem D4:∃i,Tryz.prog.info? 80=some i/\i.zero=some (.agg zR)/\i.size=10/\i.bytes=48:=by
 have h:=rR
 cases hi:Tryz.prog.info? 80 with
 | none=>rw[hi]at h;cases h
 | some i=>rw[hi]at h;simp at h;exact⟨i,rfl,h.1,h.2.1,h.2.2⟩
theorem vt{w W0:World}(ty:TypeId)(v:Value)(xs:List R)(hown:w.ownsRow W0.heap.size 80 10 v xs.length (aI xs))(hbel:Below W0.heap.size W0 w)
  (B:Nat) (A:Option Addr) (m c:Nat) (ys:List R) (hm:ys.length=m) (hr:gK w B (.slice A m c) ys) (hlen:xs.length+m<=100000) :
  ∃v' w',(Builtin.append_ #[25,25] ty #[v,.slice A m c]).run Tryz.prog w = .ok v' w'/\w'.ownsRow W0.heap.size 80 10 v' (xs++ys).length (aI (xs++ys))/\Below W0.heap.size W0 w':=by
 obtain⟨i,hi,hz0,hz1,jc⟩:=D4
 obtain⟨A',c',e,h2,h3,h4⟩:=hr
 injection e with e1 e2 e3
 subst e1 e3
 rw[List.length_append,gJ,hm]
 rcases A with _ | ad
 ·have hm0:m=0:=by
   rcases Nat.eq_zero_or_pos m with h0 | h0
   ·exact h0
   ·obtain⟨_,_,h,_⟩:=h4 zo
    cases h
  subst hm0;obtain rfl:ys=[]:=List.eq_nil_of_length_eq_zero hm;refine⟨v,w,?_,by simpa[aI]using hown,hbel⟩
  rcases hown.2 with⟨rfl,h0⟩ | ⟨g,cap,cur,rfl,_,_,hnc,_⟩
  ·simp[Builtin.append_,run_underlying Tryz.underlying25,sizeOf,typeInfo,hi,Builtin.lenOf,Builtin.firstCells]
  ·simp[Builtin.append_,run_underlying Tryz.underlying25,sizeOf,typeInfo,hi,Builtin.lenOf,Builtin.firstCells,hnc,storeCells]
 ·obtain⟨v',w',h0,h1,V0,_,_⟩:=run_append_own_at (P:=Tryz.prog) w W0.heap.size 25 ty 80 i (.agg zR) 10 48 Tryz.underlying25 hi hz0 hz1 jc rfl zo v xs.length (aI xs) hown ad m c (aI ys) (by rw[iA,hm])
   (by
    intro j u hu
    have hj:j<(aI ys).length:=(List.getElem?_eq_some_iff.1 hu).1
    rw[iA]at hj
    obtain⟨b,off,h,_,hc⟩:=h4 zo
    injection h with h
    subst h
    rw[oL]
    exact hc j u hu)
   (Cc ys) (by unfold maxLen;omega) zo hbel.size
  exact⟨v',w',h0,h1,hbel.grown V0 hbel.size λk hk=>(hown.lt k hk).1⟩
theorem tg{w:World}{o:Oper}{a:Act}{Kt:Act->World->Prop}{Q:Exit->Act->World->Prop}{ops:Array Oper}{E:Prop}(W0:World)(hgd:o.guard=none)(s x:Operand)
  (ho:o.op = .call { callee:=.builtin .append,args:=#[s,x],argTypes:=#[25,25] })
  (v:Value) (xs:List R) (hs:a.eval s=v) (hown:w.ownsRow W0.heap.size 80 10 v xs.length (aI xs)) (hbel:Below W0.heap.size W0 w)
  (B:Nat) (A:Option Addr) (m c:Nat) (ys:List R) (hx:a.eval x = .slice A m c) (hm:ys.length=m) (hr:gK w B (.slice A m c) ys) (hlen:xs.length+m<=100000)
  (h:∀v' w',Hid (w'.ownsRow W0.heap.size 80 10 v' (xs++ys).length (aI (xs++ys)))->Hid (Below W0.heap.size W0 w')->Kt (a.put o.dst v') w') :
  if Region.wanted o (yielded ops a.tmps)=true then Oper.wp Tryz.prog o a w Kt Q else E:=by
 have hw:Region.wanted o (yielded ops a.tmps)=true:=by simp[Region.wanted,hgd]
 rw[if_pos hw]
 obtain⟨v',w',h0,h1,h2⟩:=vt o.type v xs hown hbel B A m c ys hm hr hlen
 unfold Oper.wp execOp
 simp only[ho,resolve,invoke,builtin,Sem.run_bind,Sem.run_pure,Result.andThen_ok,List.map_toArray,List.map_cons,List.map_nil,hs,hx,h0]
 exact h _ _ h1 h2
end Ma
end Go.Proofs.YtbhnbcadgmagpaaGreatDoor
