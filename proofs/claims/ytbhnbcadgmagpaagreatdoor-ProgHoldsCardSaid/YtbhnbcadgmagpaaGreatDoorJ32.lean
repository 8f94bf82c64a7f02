import Derived.Test.YtbhnbcadgmagpaaGreatDoorBih
import Derived.Test.YtbhnbcadgmagpaaGreatDoorJ1
import Derived.Test.YtbhnbcadgmagpaaGreatDoorRows
import Derived.Test.YtbhnbcadgmagpaaGreatDoorJ28
import Derived.Test.YtbhnbcadgmagpaaGreatDoorJ2
import Derived.Test.YtbhnbcadgmagpaaGreatDoorJ3
import Derived.Test.YtbhnbcadgmagpaaGreatDoorJ9
import Derived.Test.YtbhnbcadgmagpaaGreatDoorJ10
import Derived.Test.YtbhnbcadgmagpaaGreatDoorJ7
import Derived.Test.YtbhnbcadgmagpaaGreatDoorJ6
import Derived.Test.YtbhnbcadgmagpaaGreatDoorJ14
import Derived.Test.YtbhnbcadgmagpaaGreatDoorJ15
import Derived.Test.YtbhnbcadgmagpaaGreatDoorJ4
set_option linter.unusedVariables false
set_option linter.unusedSimpArgs false
set_option maxHeartbeats 2000000
set_option maxRecDepth 100000
namespace Go.Proofs.YtbhnbcadgmagpaaGreatDoor
open Go.ChangeShapes Go.WideShapes Go.ChangeAt Go.RowKit Go.aN Go.Shelf Go.Sort Go.Lib
namespace Ah
open aV (bT bL dL dM aX aj eX de fm bY b3 b2 b1 b0)
theorem BN:Tryz.prog.globalNamed "internal/strconv.uint64pow10" = some 10:=zk
structure Env(w:World):Prop where
 dr:TabIs Tryz.prog w "internal/strconv.uint64pow10" .u64 pow10Tab
theorem oN{P:Program}{w:World}{n:String}{g:Nat}{cs:Array Value}(hg:P.globalNamed n=some g)(h:w.var? P n=some cs):g<w.heap.size:=by
 unfold World.var? at h;simp only[hg,Option.bind_some]at h
 rcases Nat.lt_or_ge g w.heap.size with h' | h'
 ·exact h'
 ·rw[Array.getElem?_eq_none h']at h;simp at h
theorem ir{P:Program}{w w':World}{n:String}{g:Nat}{cs:Array Value}(hg:P.globalNamed n=some g)(h:w.var? P n=some cs)(hb:Below w.heap.size w w'):w'.var? P n=some cs:=by
 have hlt:=oN hg h;unfold World.var? at *;simp only[hg,Option.bind_some]at h ⊢;rw[hb.block g hlt];exact h
theorem Env.below{w w':World}(h:Env w)(hb:Below w.heap.size w w'):Env w':=⟨ir BN h.dr hb⟩
theorem Env.alloc{w:World}(h:Env w)(o:Obj):Env (w.alloc o):=h.below ((Below.refl _ _).alloc zl o)
theorem below_drewN(w:World)(n:Nat):Below w.heap.size w (w.drewN n):=⟨rfl,rfl,rfl,Nat.le_refl _,λ_ _=>rfl⟩
theorem lN(w:World)(o:Obj):(w.alloc o).heap[w.heap.size]? = some o:=heap_alloc_new w o
def upto(a:Nat):Nat->List UInt8
 | 0=>[]
 | 1=>decDigits (b3 a)
 | 2=>decDigits (b3 a)++(46::decDigits (b2 a))
 | 3=>decDigits (b3 a)++(46::(decDigits (b2 a)++(46::decDigits (b1 a))))
 | _=>aX a
theorem uW(a k:Nat)(ha:a<4294967296):(upto a k).length<=15:=by
 have h:=aV.nu a ha;unfold aX at h;unfold upto;simp at h
 split <;> (try simp) <;> try omega
 unfold aX;simp;omega
theorem dy:(Tryz.prog.info? 5).map (λi=>(i.zero,i.size,i.bytes))=some (some (.int .u8 0),1,1):=zk
def Row(w:World)(l:List UInt8)(v:Value)(wr:World):Prop:=wr.ownsRow w.heap.size 5 1 v l.length (fE l)/\Below w.heap.size w wr
theorem lP{w wr w2:World}{l:List UInt8}{v v2:Value}(h:Row w l v wr)(c:UInt8)
  (px:w2.ownsRow w.heap.size 5 1 v2 (l.length+1) (fE l++[.int .u8 (c.toNat:Int)])) (hg:(wr.alloc (.cells #[.int .u8 (c.toNat:Int)] 5)).grownBy w2 v.ownBlock):Row w (l++[c]) v2 w2:=by
 refine⟨?_,(h.2.alloc h.2.size _).grown hg (by simp;have:=h.2.size;omega) (λb hb=>(h.1.lt b hb).1)⟩
 rw[← Ay,List.length_append]
 exact px
theorem bV{w wr:World}{l:List UInt8}{v:Value}(he:Env w)(h:Row w l v wr)(hl:l.length<=1000)(x:Int)(u:Nat)(hx:x=(u:Int))(hu:u<=255) :
  Calls Tryz.prog 275 #[v,.int .u64 x,.int .i64 10] wr λe w'=>∃v',e = .returned v'/\Row w (l++decDigits u) v' w':=by
 subst hx
 have HC:=hid (Tryz.internal_strconv_AppendUint_10 w.heap.size l.length u zo v (fE l) wr h.1 h.2.size zo (he.below h.2).dr)
 have HR:=hid h
 clear h he
 go_in
 go_wp2_with fail
 refine HC.out.mono ?_
 rintro e w2 ⟨v2,rfl,px,aZ,-⟩
 have Q4:Hid (Row w (l++decDigits u) v2 w2):=by
  refine⟨?_,HR.out.2.trans aZ⟩;rw[List.length_append]
  have:fE (l++decDigits u)=fE l++byteCells (decDigits u):=by simp[fE,byteCells]
  rw[this];exact px
 clear px aZ
 go_wp2_with fail
 go_ret
 exact⟨_,rfl,Q4.out⟩
theorem rN(a:Nat)(ha:a<4294967296)(w:World)(he:Env w) :
  Calls Tryz.prog 243 #[.int .u32 (a:Int)] w λe w'=>e = .returned (.string ⟨(aX a).toArray⟩)/\Below w.heap.size w w':=by
 obtain⟨i0,hi0,hz0,hz1,jc⟩:=info_parts dy
 have HE:=hid he
 clear he
 go_in
 go_wp2_with fail
 go_loopw [3,6] (λv i wr=>∃(k:Nat),k<=4/\i = .int .i64 (k:Int)/\Hid (Row w (upto a k) v wr)) (λ_ i _=>4 - (RowKit.intOf i).toNat)
 case atStart=>exact⟨0,by omega,rfl,World.ownsRow_nil _ _ _ _,Below.refl _ _⟩
 case round =>
  obtain⟨k,hk,rfl,hown⟩:=hrel;have BO:Hid ((upto a k).length<=15):=uW a k ha;by_cases hlt:k<4
  ·obtain rfl | rfl | rfl | rfl:k=0\/k=1\/k=2\/k=3:=zo
   ·go_wp2_with fail;refine(bV HE.out hown.out (by have:=BO.out;omega) _ (b3 a) (by unfold b3;omega) (by unfold b3;omega)).mono ?_;rintro e w3 ⟨v3,rfl,hr3⟩;have iX:=hid hr3;clear hr3;go_wp2_with fail;go_roundw
    case rel=>exact⟨1,by omega,rfl,iX.out⟩
    case measure=>simp[RowKit.intOf]
   ·go_wp2_with (at_builtin;(refine b7 _ rfl (.tmp 11) (.tmp 12) _ rfl w.heap.size 5 i0 Tryz.underlying27 hi0 hz0 hz1 jc _ _ _ _ rfl hown.out.1 rfl (by have:=BO.out;omega) hown.out.2.size ?_;intro o2 w2 px oI;have zj:=hid (lP hown.out 46 px oI);clear px oI));refine(bV HE.out zj.out (by have:=BO.out;simp;omega) _ (b2 a) (by unfold b2;omega) (by unfold b2;omega)).mono ?_;rintro e w3 ⟨v3,rfl,hr3⟩
    have iX:Hid (Row w (upto a 2) v3 w3):=by show Row _ _ _ _;simpa[upto]using hr3
    clear hr3;go_wp2_with fail;go_roundw
    case rel=>exact⟨2,by omega,rfl,iX.out⟩
    case measure=>simp[RowKit.intOf]
   ·go_wp2_with (at_builtin;(refine b7 _ rfl (.tmp 11) (.tmp 12) _ rfl w.heap.size 5 i0 Tryz.underlying27 hi0 hz0 hz1 jc _ _ _ _ rfl hown.out.1 rfl (by have:=BO.out;omega) hown.out.2.size ?_;intro o2 w2 px oI;have zj:=hid (lP hown.out 46 px oI);clear px oI));refine(bV HE.out zj.out (by have:=BO.out;simp;omega) _ (b1 a) (by unfold b1;omega) (by unfold b1;omega)).mono ?_;rintro e w3 ⟨v3,rfl,hr3⟩
    have iX:Hid (Row w (upto a 3) v3 w3):=by show Row _ _ _ _;simpa[upto]using hr3
    clear hr3;go_wp2_with fail;go_roundw
    case rel=>exact⟨3,by omega,rfl,iX.out⟩
    case measure=>simp[RowKit.intOf]
   ·go_wp2_with (at_builtin;(refine b7 _ rfl (.tmp 11) (.tmp 12) _ rfl w.heap.size 5 i0 Tryz.underlying27 hi0 hz0 hz1 jc _ _ _ _ rfl hown.out.1 rfl (by have:=BO.out;omega) hown.out.2.size ?_;intro o2 w2 px oI;have zj:=hid (lP hown.out 46 px oI);clear px oI));refine(bV HE.out zj.out (by have:=BO.out;simp;omega) _ (b0 a) (by unfold b0;omega) (by unfold b0;omega)).mono ?_;rintro e w3 ⟨v3,rfl,hr3⟩
    have iX:Hid (Row w (upto a 4) v3 w3):=by show Row _ _ _ _;simpa[upto,aX]using hr3
    clear hr3;go_wp2_with fail;go_roundw
    case rel=>exact⟨4,by omega,rfl,iX.out⟩
    case measure=>simp[RowKit.intOf]
  ·obtain rfl:k=4:=zo
   have hne:0<(upto a 4).length:=by
    simp[upto,aX];omega
   obtain⟨g,cap,rfl,_,_⟩:=hown.out.1.form hne;have ht:=Ax (P:=Tryz.prog) 27 9 5 Tryz.underlying27 Tryz.underlying5 Tryz.underlying9 (c:=cap) (lp hown.out.1 rfl);clear hne;go_wp2_with fail;go_ret;exact⟨rfl,hown.out.2⟩
theorem mS{P:Program}{f:FuncId}{args:Array Value}{w:World}{v:Value}(h:Calls P f args w λe w'=>e = .returned v/\w=w'):Calls P f args w λe w'=>e = .returned v/\w'=w :=
 h.mono λ_ _ ⟨he,hw⟩=>⟨he,hw.symm⟩
theorem mU:∀k:Fin 33,4294967295*2 ^ k.val % 4294967296=4294967296 - 2 ^ k.val:=by decide +kernel
theorem jo(a k:Nat)(ha:a<4294967296)(hk:k<=32):a &&& (4294967296 - 2 ^ k)=a - a % 2 ^ k:=by
 have e1:4294967296 - 2 ^ k=2 ^ k*(2 ^ (32 - k) - 1):=by
  rw[Nat.mul_sub,← Nat.pow_add,show k+(32 - k)=32 by omega,Nat.mul_one]
 have e2:a - a % 2 ^ k=2 ^ k*(a / 2 ^ k):=by have:=Nat.div_add_mod a (2 ^ k);omega
 rw[e1,e2];apply Nat.eq_of_testBit_eq;intro i;rw[Nat.testBit_and,Nat.testBit_two_pow_mul,Nat.testBit_two_pow_sub_one,Nat.testBit_two_pow_mul,Nat.testBit_div_two_pow];by_cases hi:k<=i
 ·rw[show i - k+k=i by omega];by_cases h32:i<32
  ·simp[hi,show i - k<32 - k by omega]
  ·have:a.testBit i=false:=Nat.testBit_lt_two_pow (Nat.lt_of_lt_of_le ha (Nat.pow_le_pow_right (show 0<2 by omega) (show 32<=i by omega)));simp[this]
 ·simp[hi]
theorem ax{k:IntKind}{a b:Int}(h:a=b):Ending.returned (.int k a) = .returned (.int k b):=by rw[h]
theorem aR{a b:Bool}(h:a=b):Ending.returned (.bool a) = .returned (.bool b):=by rw[h]
theorem mV(a:Nat)(n:Int)(h0:0<=n)(h1:n<=32):((a:Int)==((a - a % 2 ^ (32 - n.toNat):Nat):Int))=aj a n:=by
 unfold aj;rw[decide_eq_true ⟨h0,h1⟩,Bool.true_and,Bool.eq_iff_iff,beq_iff_eq,beq_iff_eq];have:=Nat.mod_le a (2 ^ (32 - n.toNat));omega
theorem fM(a:Nat)(n:Int)(h : ¬(0<=n/\n<=32)):aj a n=false:=by
 unfold aj;rw[decide_eq_false h,Bool.false_and]
abbrev boxed(w:World)(a n:Int):World:=w.alloc (.cells #[.int .u32 a,.int .i64 n] 75)
theorem cq(w:World)(a n:Int)(k:Nat):Below w.heap.size w ((boxed w a n).drewN k):=(((Below.refl _ _).alloc zl _).trans ((below_drewN _ k).mono zs))
theorem jA(a:Nat)(n:Int)(ha:a<4294967296)(h0:0<=n)(h1:n<=32) :
  bits .and .u32 (a:Int) (4294967295*2 ^ (32 - n).toNat % 4294967296)=((a - a % 2 ^ (32 - n.toNat):Nat):Int):=by
 have e:(32 - n).toNat=32 - n.toNat:=zo
 have hm:=mU ⟨32 - n.toNat,by omega⟩
 have hp:2 ^ (32 - n.toNat)<=2 ^ 32:=Nat.pow_le_pow_right zo zo
 simp only[]at hm
 have hz:(4294967295*2 ^ (32 - n).toNat % 4294967296:Int)=((4294967296 - 2 ^ (32 - n.toNat):Nat):Int):=by
  rw[e,← hm];simp
 rw[hz,u32_and_nat _ _ ha (by have:=Nat.pow_pos (n:=32 - n.toNat) (show 0<2 by omega);omega),jo a _ ha zo]
theorem ff(a:Nat)(n:Int)(ha:a<4294967296)(h0:0<=n)(h1:n<=32)(w:World) :
  Calls Tryz.prog 267 #[.int .u32 (a:Int),.int .i64 n] w λe w'=>e = .returned (.int .u32 ((a - a % 2 ^ (32 - n.toNat):Nat):Int))/\w=w':=by
 go_in
 go_wp2
 go_ret
 exact⟨ax (jA a n ha h0 h1),rfl⟩
theorem gu(a:Nat)(n:Int)(ha:a<4294967296)(w:World) :
  Calls Tryz.prog 217 #[.agg #[.int .u32 (a:Int),.int .i64 n]] w λe w'=>e = .returned (.bool (aj a n))/\Below w.heap.size w w':=by
 by_cases h0:0<=n
 ·by_cases h1:n<=32
  ·have HV:=hid (mV a n h0 h1);go_in;go_wp2
   go_quiet ((go_at_call 267;exact Calls.quiet_of_same (mS (ff a n ha h0 h1 _))))
   go_wp2;go_ret;exact⟨aR HV.out,cq _ _ _ _⟩
  ·have HV:=hid (fM a n zo)
   have hd:decide (n<=32)=false:=by simpa using h1
   clear h1;go_in;go_wp2
   go_quiet (fail)
   go_wp2;go_ret;exact⟨aR HV.out.symm,cq _ _ _ _⟩
 ·have HV:=hid (fM a n zo)
  have hd:decide (0<=n)=false:=by simpa using h0
  clear h0;go_in;go_wp2
  go_quiet (fail)
  go_wp2;go_ret;exact⟨aR HV.out.symm,cq _ _ _ _⟩
def aG(w:World)(a n:Int)(w1:World):Prop :=
 w1.cell? ⟨w.heap.size,0,none⟩=some (.int .u32 a)/\w1.cell? ⟨w.heap.size,1,none⟩=some (.int .i64 n)/\Below w.heap.size w w1/\w.heap.size<w1.heap.size
theorem cA(w:World)(a n:Int):aG w a n (boxed w a n) :=
 ⟨by rw[cell_of_row _ _ _ _ _ _ (lN _ _)];rfl,by rw[cell_of_row _ _ _ _ _ _ (lN _ _)];rfl,(Below.refl _ _).alloc zl _,by simp⟩
theorem aG.next{w w1 w2:World}{a n:Int}(h:aG w a n w1)(hb:Below w1.heap.size w1 w2):aG w a n w2 :=
 ⟨(hb.cell h.2.2.2).trans h.1,(hb.cell h.2.2.2).trans h.2.1,h.2.2.1.trans (hb.mono (by have:=h.2.2.2;omega)),by have:=h.2.2.2;have:=hb.size;omega⟩
theorem aG.go{w w1 w2:World}{a n:Int}(h:Hid (aG w a n w1))(hb:Below w1.heap.size w1 w2) :
  w2.cell? ⟨w.heap.size,0,none⟩=some (.int .u32 a)/\w2.cell? ⟨w.heap.size,1,none⟩=some (.int .i64 n)/\Hid (aG w a n w2) :=
 ⟨(h.out.next hb).1,(h.out.next hb).2.1,h.out.next hb⟩
theorem aG.PM{w w1 w2:World}{a n:Int}(h:w1.cell? ⟨w.heap.size,0,none⟩=some (.int .u32 a)/\w1.cell? ⟨w.heap.size,1,none⟩=some (.int .i64 n)/\Hid (aG w a n w1))(hb:Below w1.heap.size w1 w2) :
  w2.cell? ⟨w.heap.size,0,none⟩=some (.int .u32 a)/\w2.cell? ⟨w.heap.size,1,none⟩=some (.int .i64 n)/\Hid (aG w a n w2):=aG.go h.2.2 hb
theorem aG.PN{w w1:World}{a n:Int}(h:Hid (aG w a n w1)) :
  w1.drew.cell? ⟨w.heap.size,0,none⟩=some (.int .u32 a)/\w1.drew.cell? ⟨w.heap.size,1,none⟩=some (.int .i64 n)/\Hid (aG w a n w1.drew) :=
 ⟨h.out.1,h.out.2.1,h.out.1,h.out.2.1,h.out.2.2.1.drew,h.out.2.2.2⟩
theorem uX(n:Int)(h0:0<=n)(h1:n<=99)(w:World):Calls Tryz.prog 244 #[.int .i64 n] w λe w'=>e = .returned (.string ⟨(decDigits n.toNat).toArray⟩)/\w=w':=by
 obtain⟨i,rfl⟩:=Int.eq_ofNat_of_zero_le h0;exact(Tryz.strconv_Itoa_small i zo w).mono λ_ _ ⟨he,hw⟩=>⟨he,hw.symm⟩
theorem jB{P:Program}(x y:List UInt8)(hx:x.length<=1000000)(hy:y.length<=1000000)(W:World) :
  (Op.stringOp .add ⟨x.toArray⟩ ⟨y.toArray⟩).run P W = .ok (.string ⟨(x++y).toArray⟩) W:=run_string_add_lists W x y zo zo
def cH(a:Nat)(n:Int):Value:=match eX a n with
 | some t=>.tuple #[.string ⟨t.toArray⟩,.int .i64 0]
 | none=>.tuple #[.string ⟨#[]⟩,.int .i64 1]
theorem iF{a:Nat}{n:Int}(h:aj a n=false):cH a n = .tuple #[.string ⟨#[]⟩,.int .i64 1]:=by
 unfold cH eX;rw[if_neg (by rw[h];simp)]
theorem mW{a:Nat}(h:aj a 0=true):cH a 0 = .tuple #[.string ⟨aV.bY.toArray⟩,.int .i64 0]:=by
 unfold cH eX;rw[if_pos h];rfl
theorem mX{a:Nat}{n:Int}(h:aj a n=true)(h0:n≠0):cH a n = .tuple #[.string ⟨(aX a++(47::decDigits n.toNat)).toArray⟩,.int .i64 0]:=by
 unfold cH eX;rw[if_pos h,if_neg h0]
theorem uY(a:Nat)(n:Int)(ha:a<4294967296)(w:World)(he:Env w) :
  Calls Tryz.prog 185 #[.agg #[.int .u32 (a:Int),.int .i64 n]] w λe w'=>e = .returned (cH a n)/\Below w.heap.size w w':=by
 have HV:=hid (λW=>gu a n ha W)
 have HN:=hid (cA w a n)
 cases hv:aj a n with
 | false =>
  rw[hv]at HV
  have HR:=hid (iF hv)
  clear hv
  go_in
  go_wp2_with fail
  go_at_call 217
  refine(HV.out _).mono ?_
  rintro e w1 ⟨rfl,aK⟩
  have HB:=hid (HN.out.next aK)
  clear aK
  go_wp2_with fail
  go_ret2
  exact⟨by rw[HR.out];rfl,HB.out.2.2.1⟩
 | true =>
  rw[hv]at HV
  by_cases h0:n=0
  ·subst h0;have HR:=hid (mW hv);clear hv;go_in;go_wp2_with fail;refine(HV.out _).mono ?_;rintro e w1 ⟨rfl,aK⟩;obtain⟨hc0,hc1,HB⟩:=aG.go HN aK;clear aK;go_wp2_with fail;go_ret2;exact⟨by rw[HR.out];rfl,HB.out.2.2.1⟩
  ·have HR:=hid (mX hv h0);have hn:=(aV.df.1 hv).1;have HP:=hid (λw1 (h:w1.cell? ⟨w.heap.size,0,none⟩=some (.int .u32 (a:Int))/\w1.cell? ⟨w.heap.size,1,none⟩=some (.int .i64 n)/\Hid (aG w a n w1))=>rN a ha w1 (he.below h.2.2.out.2.2.1));have HI:=hid (λw1=>uX n hn.1 zo w1)
   have hd:(n==0)=false:=by simpa using h0
   have Q5:=aV.nu a ha;have qJ:=aV.bO 1 n.toNat zo;have Yj:=λW=>jB (P:=Tryz.prog) (aX a) [47] zo zs W;have Q6:=λW=>jB (P:=Tryz.prog) (aX a++[47]) (decDigits n.toNat) zt zo W
   have Q4:Hid (aX a++(47::decDigits n.toNat)=aX a++[47]++decDigits n.toNat):=by show _=_;simp
   clear hv he h0 hn Q5 qJ;go_in;go_wp2_with fail;refine(HV.out _).mono ?_;rintro e w1 ⟨rfl,aK⟩;obtain⟨hc0,hc1,HB⟩:=aG.go HN aK;clear aK;go_wp2_with fail
   go_region_held3 (λw'=>w'.cell? ⟨w.heap.size,0,none⟩=some (.int .u32 a)/\w'.cell? ⟨w.heap.size,1,none⟩=some (.int .i64 n)/\Hid (aG w a n w')) (first | exact aG.PN zz | exact aG.PM zz zz | go_keep)
    (first
     | (go_at_call 243;refine(HP.out _ zz).mono ?_;rintro e w2 ⟨rfl,cz⟩)
     | (go_at_call 244;refine(HI.out _).mono ?_;rintro e w' ⟨rfl,rfl⟩))
   go_wp2_with fail;go_ret2;have hh:w2.cell? ⟨w.heap.size,0,none⟩=some (.int .u32 (a:Int))/\w2.cell? ⟨w.heap.size,1,none⟩=some (.int .i64 n)/\Hid (aG w a n w2):=zz;exact⟨by rw[HR.out];rfl,hh.2.2.out.2.2.1⟩
theorem aA{w w1 w2:World}(h:Below w.heap.size w w1)(h2:Below w1.heap.size w1 w2):Below w.heap.size w w2:=h.trans (h2.mono h.size)
theorem ae(w:World)(o:Obj):Below w.heap.size w (w.alloc o):=(Below.refl _ _).alloc zl _
open aE (oD)
theorem rO{a:Nat}{n:Int}(h:aj a n=true):cH a n = .tuple #[.string ⟨(oD a n).toArray⟩,.int .i64 0]:=by
 unfold cH;rw[aE.pO h]
theorem bG(a:Nat)(n:Int)(ha:a<4294967296)(w:World)(he:Env w) :
  Calls Tryz.prog 130 #[.agg #[.int .u32 (a:Int),.int .i64 n]] w λe w'=>e = .returned (.bool (aj a n))/\Below w.heap.size w w':=by
 have HN:=hid (cA w a n)
 have HS:=hid (uY a n ha (boxed w a n) (he.alloc _))
 clear he
 cases hv:aj a n with
 | false =>
  rw[iF hv]at HS
  clear hv
  obtain⟨hc0,hc1,-,-⟩:=HN.out
  go_in
  go_wp2_with fail
  go_at_call 185
  refine HS.out.mono ?_
  rintro e w1 ⟨rfl,hb⟩
  have HB:=hid (aA (ae _ _) hb)
  clear hb hc0 hc1
  go_wp2_with fail
  go_ret
  exact⟨rfl,HB.out⟩
 | true =>
  rw[rO hv]at HS
  clear hv
  obtain⟨hc0,hc1,-,-⟩:=HN.out
  go_in
  go_wp2_with fail
  go_at_call 185
  refine HS.out.mono ?_
  rintro e w1 ⟨rfl,hb⟩
  have HB:=hid (aA (ae _ _) hb)
  clear hb hc0 hc1
  go_wp2_with fail
  go_ret
  exact⟨rfl,HB.out⟩
theorem bE(a b:Nat)(w:World) :
  Calls Tryz.prog 131 #[.agg #[.int .u16 (a:Int),.int .u16 (b:Int)]] w λe w'=>e = .returned (.bool (decide (a<=b)))/\Below w.heap.size w w':=by
 have HB:=hid (ae w (.cells #[.int .u16 (a:Int),.int .u16 (b:Int)] 78))
 go_in
 go_wp2_with fail
 go_ret
 exact⟨rfl,HB.out⟩
end Ah
end Go.Proofs.YtbhnbcadgmagpaaGreatDoor
namespace Go.Proofs.YtbhnbcadgmagpaaGreatDoor
open Go.ChangeShapes Go.WideShapes Go.ChangeAt Go.RowKit Go.aN Go.Lib
namespace Au
open ak
open aE (R)
structure Env(w:World):Prop where
 ga:Ga.Env w
 fl:Fl.Env w
 ah:Ah.Env w
theorem Env.below{w w':World}(h:Env w)(hb:Below w.heap.size w w'):Env w':=⟨h.ga.below hb zl,h.fl.below hb zl,h.ah.below hb⟩
structure Yv(j:Nat):Prop where
 ga:j≠0
 fl:j≠2
 ah:j≠10
theorem Env.only{O:Nat->Prop}{w w':World}(h:Env w)(ho:ar O w w')(hf:∀j,O j->Yv j):Env w':=by
 have Z1:w'.heap[0]? = w.heap[0]?:=ho.block _ h.ga.lt λe=>(hf _ e).ga rfl;have hfl:w'.heap[2]? = w.heap[2]?:=ho.block _ h.fl.lt λe=>(hf _ e).fl rfl;have Z2:w'.heap[10]? = w.heap[10]?:=ho.block _ (Ah.oN Ah.BN h.ah.dr) λe=>(hf _ e).ah rfl;have OE:∀i,w'.cell? ⟨0,i,none⟩=w.cell? ⟨0,i,none⟩:=λi=>World.cell?_of_block (w:=w) Z1;have OG:∀i,w'.cell? ⟨2,i,none⟩=w.cell? ⟨2,i,none⟩:=λi=>World.cell?_of_block (w:=w) hfl;refine⟨?_,?_,⟨?_⟩⟩
 ·obtain⟨c0,c1,c2,c3,c4,c5,c6,c7,c8⟩:=h.ga;exact⟨(OE _).trans c0,(OE _).trans c1,(OE _).trans c2,(OE _).trans c3,(OE _).trans c4,(OE _).trans c5,(OE _).trans c6,(OE _).trans c7,(OE _).trans c8⟩
 ·obtain⟨c0,c1,c2,c3,c4,c5,c6,c7,c8⟩:=h.fl;exact⟨(OG _).trans c0,(OG _).trans c1,(OG _).trans c2,(OG _).trans c3,(OG _).trans c4,(OG _).trans c5,(OG _).trans c6,(OG _).trans c7,(OG _).trans c8⟩
 ·have ht:=h.ah.dr
  have e:w'.var? Tryz.prog "internal/strconv.uint64pow10" = w.var? Tryz.prog "internal/strconv.uint64pow10":=by
   unfold World.var?;simp only[Ah.BN,Option.bind_some,Z2]
  unfold TabIs at ht ⊢;rw[e];exact ht
theorem Env.new{w:World}(h:Env w){j:Nat}(hj:w.heap.size<=j):Yv j :=
 ⟨by have:=h.ga.lt;omega,by have:=h.fl.lt;omega,by have:=Ah.oN Ah.BN h.ah.dr;omega⟩
structure St where
 c:Int
 g:Int
 v:Int
 rl:List R
 fs:List Fl
 tl:Nat->Int
structure Inv(N:Int)(s:St):Prop where
 fit:dJ.Fit s.c s.g s.v
 cnt:s.g=s.fs.length
 cap:s.g<=N
 vR:N<=4095
 vL:dN s.fs
 rls:∀r∈s.rl,r.Ok
 yH:s.rl.length<=64
 tl:∀i,0<=s.tl i/\s.tl i<18446744073709551616
theorem gK.only{O:Nat->Prop}{w w':World}{v:Value}{rs:List R}(h:gK w w.heap.size v rs)(ho:ar O w w')(hn:0<rs.length->∀a n c,v = .slice (some a) n c->¬O a.block):gK w' w'.heap.size v rs:=by
 obtain⟨A',cap',h1,h2,h3,h4⟩:=h;refine⟨A',cap',h1,h2,h3,λhp=>?_⟩;obtain⟨b,off,rfl,hb,hc⟩:=h4 hp;exact⟨b,off,rfl,Nat.lt_of_lt_of_le hb ho.size,λj u hu=>(ho.cell (p:=⟨b,off+j,none⟩) hb (hn hp ⟨b,off,none⟩ _ _ h1)).trans (hc j u hu)⟩
section
variable {w w':World}{O O':Nat->Prop}{B M:Nat}{N:Int}{T:Nat->Int}{x:Int}{li:Value}{rl:List R}{fs:List Fl}{t:Nat->Int}
end
end Au
end Go.Proofs.YtbhnbcadgmagpaaGreatDoor
namespace Go.Proofs.YtbhnbcadgmagpaaGreatDoor
open Go.ChangeShapes Go.WideShapes Go.ChangeAt Go.RowKit Go.aN Go.Lib
namespace Au
open ak
open aE (R)
theorem ae(w:World)(o:Obj):Below w.heap.size w (w.alloc o):=(Below.refl _ w).alloc zl o
theorem aA{w w1 w2:World}(h:Below w.heap.size w w1)(h2:Below w1.heap.size w1 w2):Below w.heap.size w w2:=h.trans (h2.mono h.size)
section
variable {w0 w w':World}{O:Nat->Prop}{B M:Nat}{N:Int}{T:Nat->Int}{x:Int}{li:Value}{rl:List R}{fs:List Fl}{t:Nat->Int}{g:Nat}{cs:Array Value}{ty:TypeId}
end
end Au
end Go.Proofs.YtbhnbcadgmagpaaGreatDoor
namespace Go.Proofs.YtbhnbcadgmagpaaGreatDoor
open Go.ChangeShapes Go.WideShapes Go.ChangeAt Go.RowKit Go.aN Go.Lib
namespace Au
open ak
open aE (R)
open iw (K)
abbrev sx(T:Nat->Int):Array Value:=#[.int .i64 (T 0),.int .i64 (T 1),.int .i64 (T 2),.int .i64 (T 3),.int .i64 (T 4),.int .i64 (T 5),.int .i64 (T 6),.int .i64 (T 7),.int .i64 (T 8),.int .i64 (T 9),.int .i64 (T 10),.int .i64 (T 11),.int .i64 (T 12),.int .i64 (T 13),.int .i64 (T 14),.int .i64 (T 15)]
theorem six{T:Nat->Int}(h:∀i,-9223372036854775808<=T i/\T i<=9223372036854775807):Fs.Vm (sx T) T where
 size:=rfl
 cell:=λi hi=>by
  obtain rfl | rfl | rfl | rfl | rfl | rfl | rfl | rfl | rfl | rfl | rfl | rfl | rfl | rfl | rfl | rfl:i=0\/i=1\/i=2\/i=3\/i=4\/i=5\/i=6\/i=7\/i=8\/i=9\/i=10\/i=11\/i=12\/i=13\/i=14\/i=15:=zo
  all_goals rfl
 fit:=λi _=>h i
end Au
namespace Au
open ak
open aE (R)
open iw (K fst j3 rp)
end Au
end Go.Proofs.YtbhnbcadgmagpaaGreatDoor
namespace Go.Proofs.YtbhnbcadgmagpaaGreatDoor
open Go.ChangeShapes Go.WideShapes Go.ChangeAt Go.RowKit Go.aN Go.Shelf Go.Lib
namespace Ah
open aE (R gB known cg gb bU oD tT eY gY oE)
open aV (bY aj eX)
open Ru (aO Fc)
abbrev cR(r:R):Array Value:=#[.bool r.acc,.int .u8 (r.pr:Int),.int .u32 (r.sa:Int),.int .i64 r.sb,.int .u32 (r.da:Int),.int .i64 r.db,.int .u16 (r.sl:Int),.int .u16 (r.sh:Int),.int .u16 (r.dl:Int),.int .u16 (r.dh:Int)]
structure eD(w:World)(g:Nat)(r:R)(W:World):Prop where
 blk:aF W g (cR r) 80
 az:Below w.heap.size w W
theorem eD.box(w:World)(r:R):eD w w.heap.size r (w.alloc (.cells (cR r) 80)):=⟨aF.box _ _ _,ae _ _⟩
theorem eD.next{w W W':World}{g:Nat}{r:R}(h:eD w g r W)(hb:Below W.heap.size W W'):eD w g r W':=⟨h.blk.next hb,aA h.az hb⟩
theorem eD.c0{w W:World}{g:Nat}{r:R}(h:eD w g r W):W.cell? ⟨g,0,none⟩=some (.bool r.acc):=h.blk.cell 0 _ rfl
theorem eD.c1{w W:World}{g:Nat}{r:R}(h:eD w g r W):W.cell? ⟨g,1,none⟩=some (.int .u8 (r.pr:Int)):=h.blk.cell 1 _ rfl
theorem eD.c2{w W:World}{g:Nat}{r:R}(h:eD w g r W):W.cell? ⟨g,2,none⟩=some (.int .u32 (r.sa:Int)):=h.blk.cell 2 _ rfl
theorem eD.c3{w W:World}{g:Nat}{r:R}(h:eD w g r W):W.cell? ⟨g,3,none⟩=some (.int .i64 r.sb):=h.blk.cell 3 _ rfl
theorem eD.c4{w W:World}{g:Nat}{r:R}(h:eD w g r W):W.cell? ⟨g,4,none⟩=some (.int .u32 (r.da:Int)):=h.blk.cell 4 _ rfl
theorem eD.c5{w W:World}{g:Nat}{r:R}(h:eD w g r W):W.cell? ⟨g,5,none⟩=some (.int .i64 r.db):=h.blk.cell 5 _ rfl
theorem eD.c6{w W:World}{g:Nat}{r:R}(h:eD w g r W):W.cell? ⟨g,6,none⟩=some (.int .u16 (r.sl:Int)):=h.blk.cell 6 _ rfl
theorem eD.c7{w W:World}{g:Nat}{r:R}(h:eD w g r W):W.cell? ⟨g,7,none⟩=some (.int .u16 (r.sh:Int)):=h.blk.cell 7 _ rfl
theorem eD.c8{w W:World}{g:Nat}{r:R}(h:eD w g r W):W.cell? ⟨g,8,none⟩=some (.int .u16 (r.dl:Int)):=h.blk.cell 8 _ rfl
theorem eD.c9{w W:World}{g:Nat}{r:R}(h:eD w g r W):W.cell? ⟨g,9,none⟩=some (.int .u16 (r.dh:Int)):=h.blk.cell 9 _ rfl
theorem DC(r:R)(ho:r.Ok)(w:World)(he:Env w)  (h0:known r.pr=false) :
  Calls Tryz.prog 93 #[.agg #[.bool r.acc,.int .u8 (r.pr:Int),.int .u32 (r.sa:Int),.int .i64 r.sb,.int .u32 (r.da:Int),.int .i64 r.db,.int .u16 (r.sl:Int),.int .u16 (r.sh:Int),.int .u16 (r.dl:Int),.int .u16 (r.dh:Int)]] w λe w'=>e = .returned (.bool false)/\Below w.heap.size w w':=by
 have H0:=hid (λW (h:Below w.heap.size w W)=>aO r.pr ho.pr W)
 rw[h0]at H0
 have K:=eD.box w r
 clear he ho h0
 have lz:=hid K
 have d1:=K.c1
 clear K
 go_in
 go_wp2_with fail
 refine(H0.out _ lz.out.az).mono ?_
 rintro e w1 ⟨rfl,hb⟩
 have gR:=hid (lz.out.next hb)
 clear hb d1
 go_wp2_with fail
 go_ret
 exact⟨rfl,gR.out.az⟩
theorem DD(r:R)(ho:r.Ok)(w:World)(he:Env w)(h0:known r.pr=true)(h1:aj r.sa r.sb=false) :
  Calls Tryz.prog 93 #[.agg #[.bool r.acc,.int .u8 (r.pr:Int),.int .u32 (r.sa:Int),.int .i64 r.sb,.int .u32 (r.da:Int),.int .i64 r.db,.int .u16 (r.sl:Int),.int .u16 (r.sh:Int),.int .u16 (r.dl:Int),.int .u16 (r.dh:Int)]] w λe w'=>e = .returned (.bool false)/\Below w.heap.size w w':=by
 have H0:=hid (λW (h:Below w.heap.size w W)=>aO r.pr ho.pr W)
 rw[h0]at H0
 have H1:=hid (λW (h:Below w.heap.size w W)=>bG r.sa r.sb ho.sa W (he.below h))
 rw[h1]at H1
 have K:=eD.box w r
 clear he ho h0 h1
 have lz:=hid K
 have d1:=K.c1
 clear K
 go_in
 go_wp2_with fail
 refine(H0.out _ lz.out.az).mono ?_
 rintro e w1 ⟨rfl,hb⟩
 have gR:=hid (lz.out.next hb)
 have d2:=gR.out.c2
 have d3:=gR.out.c3
 clear hb d1
 go_wp2_with fail
 refine(H1.out _ gR.out.az).mono ?_
 rintro e w2 ⟨rfl,hb⟩
 have iu:=hid (gR.out.next hb)
 clear hb d2 d3
 go_wp2_with fail
 go_ret
 exact⟨rfl,iu.out.az⟩
theorem DF(r:R)(ho:r.Ok)(w:World)(he:Env w)(h0:known r.pr=true)(h1:aj r.sa r.sb=true)(h2:aj r.da r.db=false) :
  Calls Tryz.prog 93 #[.agg #[.bool r.acc,.int .u8 (r.pr:Int),.int .u32 (r.sa:Int),.int .i64 r.sb,.int .u32 (r.da:Int),.int .i64 r.db,.int .u16 (r.sl:Int),.int .u16 (r.sh:Int),.int .u16 (r.dl:Int),.int .u16 (r.dh:Int)]] w λe w'=>e = .returned (.bool false)/\Below w.heap.size w w':=by
 have H0:=hid (λW (h:Below w.heap.size w W)=>aO r.pr ho.pr W)
 rw[h0]at H0
 have H1:=hid (λW (h:Below w.heap.size w W)=>bG r.sa r.sb ho.sa W (he.below h))
 rw[h1]at H1
 have H2:=hid (λW (h:Below w.heap.size w W)=>bG r.da r.db ho.da W (he.below h))
 rw[h2]at H2
 have K:=eD.box w r
 clear he ho h0 h1 h2
 have lz:=hid K
 have d1:=K.c1
 clear K
 go_in
 go_wp2_with fail
 refine(H0.out _ lz.out.az).mono ?_
 rintro e w1 ⟨rfl,hb⟩
 have gR:=hid (lz.out.next hb)
 have d2:=gR.out.c2
 have d3:=gR.out.c3
 clear hb d1
 go_wp2_with fail
 refine(H1.out _ gR.out.az).mono ?_
 rintro e w2 ⟨rfl,hb⟩
 have iu:=hid (gR.out.next hb)
 have d4:=iu.out.c4
 have d5:=iu.out.c5
 clear hb d2 d3
 go_wp2_with fail
 refine(H2.out _ iu.out.az).mono ?_
 rintro e w3 ⟨rfl,hb⟩
 have k9:=hid (iu.out.next hb)
 clear hb d4 d5
 go_wp2_with fail
 go_ret
 exact⟨rfl,k9.out.az⟩
theorem DG(r:R)(ho:r.Ok)(w:World)(he:Env w)(h0:known r.pr=true)(h1:aj r.sa r.sb=true)(h2:aj r.da r.db=true)(h3:decide (r.sl<=r.sh)=false) :
  Calls Tryz.prog 93 #[.agg #[.bool r.acc,.int .u8 (r.pr:Int),.int .u32 (r.sa:Int),.int .i64 r.sb,.int .u32 (r.da:Int),.int .i64 r.db,.int .u16 (r.sl:Int),.int .u16 (r.sh:Int),.int .u16 (r.dl:Int),.int .u16 (r.dh:Int)]] w λe w'=>e = .returned (.bool false)/\Below w.heap.size w w':=by
 have H0:=hid (λW (h:Below w.heap.size w W)=>aO r.pr ho.pr W)
 rw[h0]at H0
 have H1:=hid (λW (h:Below w.heap.size w W)=>bG r.sa r.sb ho.sa W (he.below h))
 rw[h1]at H1
 have H2:=hid (λW (h:Below w.heap.size w W)=>bG r.da r.db ho.da W (he.below h))
 rw[h2]at H2
 have H3:=hid (λW (h:Below w.heap.size w W)=>bE r.sl r.sh W)
 rw[h3]at H3
 have K:=eD.box w r
 clear he ho h0 h1 h2 h3
 have lz:=hid K
 have d1:=K.c1
 clear K
 go_in
 go_wp2_with fail
 refine(H0.out _ lz.out.az).mono ?_
 rintro e w1 ⟨rfl,hb⟩
 have gR:=hid (lz.out.next hb)
 have d2:=gR.out.c2
 have d3:=gR.out.c3
 clear hb d1
 go_wp2_with fail
 refine(H1.out _ gR.out.az).mono ?_
 rintro e w2 ⟨rfl,hb⟩
 have iu:=hid (gR.out.next hb)
 have d4:=iu.out.c4
 have d5:=iu.out.c5
 clear hb d2 d3
 go_wp2_with fail
 refine(H2.out _ iu.out.az).mono ?_
 rintro e w3 ⟨rfl,hb⟩
 have k9:=hid (iu.out.next hb)
 have d6:=k9.out.c6
 have d7:=k9.out.c7
 clear hb d4 d5
 go_wp2_with fail
 refine(H3.out _ k9.out.az).mono ?_
 rintro e w4 ⟨rfl,hb⟩
 have sY:=hid (k9.out.next hb)
 clear hb d6 d7
 go_wp2_with fail
 go_ret
 exact⟨rfl,sY.out.az⟩
theorem DI(r:R)(ho:r.Ok)(w:World)(he:Env w)(h0:known r.pr=true)(h1:aj r.sa r.sb=true)(h2:aj r.da r.db=true)(h3:decide (r.sl<=r.sh)=true)(h4:decide (r.dl<=r.dh)=false) :
  Calls Tryz.prog 93 #[.agg #[.bool r.acc,.int .u8 (r.pr:Int),.int .u32 (r.sa:Int),.int .i64 r.sb,.int .u32 (r.da:Int),.int .i64 r.db,.int .u16 (r.sl:Int),.int .u16 (r.sh:Int),.int .u16 (r.dl:Int),.int .u16 (r.dh:Int)]] w λe w'=>e = .returned (.bool false)/\Below w.heap.size w w':=by
 have H0:=hid (λW (h:Below w.heap.size w W)=>aO r.pr ho.pr W)
 rw[h0]at H0
 have H1:=hid (λW (h:Below w.heap.size w W)=>bG r.sa r.sb ho.sa W (he.below h))
 rw[h1]at H1
 have H2:=hid (λW (h:Below w.heap.size w W)=>bG r.da r.db ho.da W (he.below h))
 rw[h2]at H2
 have H3:=hid (λW (h:Below w.heap.size w W)=>bE r.sl r.sh W)
 rw[h3]at H3
 have H4:=hid (λW (h:Below w.heap.size w W)=>bE r.dl r.dh W)
 rw[h4]at H4
 have K:=eD.box w r
 clear he ho h0 h1 h2 h3 h4
 have lz:=hid K
 have d1:=K.c1
 clear K
 go_in
 go_wp2_with fail
 refine(H0.out _ lz.out.az).mono ?_
 rintro e w1 ⟨rfl,hb⟩
 have gR:=hid (lz.out.next hb)
 have d2:=gR.out.c2
 have d3:=gR.out.c3
 clear hb d1
 go_wp2_with fail
 refine(H1.out _ gR.out.az).mono ?_
 rintro e w2 ⟨rfl,hb⟩
 have iu:=hid (gR.out.next hb)
 have d4:=iu.out.c4
 have d5:=iu.out.c5
 clear hb d2 d3
 go_wp2_with fail
 refine(H2.out _ iu.out.az).mono ?_
 rintro e w3 ⟨rfl,hb⟩
 have k9:=hid (iu.out.next hb)
 have d6:=k9.out.c6
 have d7:=k9.out.c7
 clear hb d4 d5
 go_wp2_with fail
 refine(H3.out _ k9.out.az).mono ?_
 rintro e w4 ⟨rfl,hb⟩
 have sY:=hid (k9.out.next hb)
 have d8:=sY.out.c8
 have d9:=sY.out.c9
 clear hb d6 d7
 go_wp2_with fail
 refine(H4.out _ sY.out.az).mono ?_
 rintro e w5 ⟨rfl,hb⟩
 have GU:=hid (sY.out.next hb)
 clear hb d8 d9
 go_wp2_with fail
 go_ret
 exact⟨rfl,GU.out.az⟩
theorem DJ(r:R)(ho:r.Ok)(w:World)(he:Env w)(h0:known r.pr=true)(h1:aj r.sa r.sb=true)(h2:aj r.da r.db=true)(h3:decide (r.sl<=r.sh)=true)(h4:decide (r.dl<=r.dh)=true) :
  Calls Tryz.prog 93 #[.agg #[.bool r.acc,.int .u8 (r.pr:Int),.int .u32 (r.sa:Int),.int .i64 r.sb,.int .u32 (r.da:Int),.int .i64 r.db,.int .u16 (r.sl:Int),.int .u16 (r.sh:Int),.int .u16 (r.dl:Int),.int .u16 (r.dh:Int)]] w λe w'=>e = .returned (.bool true)/\Below w.heap.size w w':=by
 have H0:=hid (λW (h:Below w.heap.size w W)=>aO r.pr ho.pr W)
 rw[h0]at H0
 have H1:=hid (λW (h:Below w.heap.size w W)=>bG r.sa r.sb ho.sa W (he.below h))
 rw[h1]at H1
 have H2:=hid (λW (h:Below w.heap.size w W)=>bG r.da r.db ho.da W (he.below h))
 rw[h2]at H2
 have H3:=hid (λW (h:Below w.heap.size w W)=>bE r.sl r.sh W)
 rw[h3]at H3
 have H4:=hid (λW (h:Below w.heap.size w W)=>bE r.dl r.dh W)
 rw[h4]at H4
 have K:=eD.box w r
 clear he ho h0 h1 h2 h3 h4
 have lz:=hid K
 have d1:=K.c1
 clear K
 go_in
 go_wp2_with fail
 refine(H0.out _ lz.out.az).mono ?_
 rintro e w1 ⟨rfl,hb⟩
 have gR:=hid (lz.out.next hb)
 have d2:=gR.out.c2
 have d3:=gR.out.c3
 clear hb d1
 go_wp2_with fail
 refine(H1.out _ gR.out.az).mono ?_
 rintro e w2 ⟨rfl,hb⟩
 have iu:=hid (gR.out.next hb)
 have d4:=iu.out.c4
 have d5:=iu.out.c5
 clear hb d2 d3
 go_wp2_with fail
 refine(H2.out _ iu.out.az).mono ?_
 rintro e w3 ⟨rfl,hb⟩
 have k9:=hid (iu.out.next hb)
 have d6:=k9.out.c6
 have d7:=k9.out.c7
 clear hb d4 d5
 go_wp2_with fail
 refine(H3.out _ k9.out.az).mono ?_
 rintro e w4 ⟨rfl,hb⟩
 have sY:=hid (k9.out.next hb)
 have d8:=sY.out.c8
 have d9:=sY.out.c9
 clear hb d6 d7
 go_wp2_with fail
 refine(H4.out _ sY.out.az).mono ?_
 rintro e w5 ⟨rfl,hb⟩
 have GU:=hid (sY.out.next hb)
 clear hb d8 d9
 go_wp2_with fail
 go_ret
 exact⟨rfl,GU.out.az⟩
theorem BQ(r:R)(ho:r.Ok)(w:World)(he:Env w) :
  Calls Tryz.prog 93 #[.agg #[.bool r.acc,.int .u8 (r.pr:Int),.int .u32 (r.sa:Int),.int .i64 r.sb,.int .u32 (r.da:Int),.int .i64 r.db,.int .u16 (r.sl:Int),.int .u16 (r.sh:Int),.int .u16 (r.dl:Int),.int .u16 (r.dh:Int)]] w λe w'=>e = .returned (.bool (eY r))/\Below w.heap.size w w':=by
 unfold eY
 cases h0:known r.pr with
 | false=>exact(DC r ho w he h0).mono λe w' ⟨a,b⟩=>⟨by rw[a];simp only[h0,Bool.false_and,Bool.and_false],b⟩
 | true =>
  cases h1:aj r.sa r.sb with
  | false=>exact(DD r ho w he h0 h1).mono λe w' ⟨a,b⟩=>⟨by rw[a];simp only[h1,Bool.false_and,Bool.and_false],b⟩
  | true =>
   cases h2:aj r.da r.db with
   | false=>exact(DF r ho w he h0 h1 h2).mono λe w' ⟨a,b⟩=>⟨by rw[a];simp only[h2,Bool.false_and,Bool.and_false],b⟩
   | true =>
    cases h3:decide (r.sl<=r.sh)with
    | false=>exact(DG r ho w he h0 h1 h2 h3).mono λe w' ⟨a,b⟩=>⟨by rw[a];simp only[h3,Bool.false_and,Bool.and_false],b⟩
    | true =>
     cases h4:decide (r.dl<=r.dh)with
     | false=>exact(DI r ho w he h0 h1 h2 h3 h4).mono λe w' ⟨a,b⟩=>⟨by rw[a];simp only[h4,Bool.false_and,Bool.and_false],b⟩
     | true =>
      exact(DJ r ho w he h0 h1 h2 h3 h4).mono λe w' ⟨a,b⟩=>⟨by rw[a];rfl,b⟩
end Ah
end Go.Proofs.YtbhnbcadgmagpaaGreatDoor
namespace Go.Proofs.YtbhnbcadgmagpaaGreatDoor
open Go.ChangeShapes Go.WideShapes Go.ChangeAt Go.RowKit Go.aN Go.Lib
namespace Au
open ak
open aE (R eY)
open Ma (TC zF)
def m_(rs:List R):Int:=if 64<rs.length then 14 else if rs.all eY then 0 else 1
theorem LU{rs:List R}(h:64<rs.length):m_ rs=14:=if_pos h
theorem Rf{rs:List R}(h : ¬64<rs.length)(hg:∀(i:Nat) q,i<rs.length->rs[i]? = some q->eY q=true):m_ rs=0:=by
 unfold m_;rw[if_neg h,if_pos (List.all_eq_true.2 λq hq=>by obtain⟨i,hi⟩:=List.mem_iff_getElem?.1 hq;exact hg i q (List.getElem?_eq_some_iff.1 hi).1 hi)]
theorem OI{rs:List R}(h : ¬64<rs.length){i:Nat}{q:R}(hi:rs[i]? = some q)(hq:eY q=false):m_ rs=1:=by
 unfold m_;rw[if_neg h,if_neg];intro ha;have:=List.all_eq_true.1 ha q (List.mem_of_getElem? hi)
 rw[hq]at this;cases this
theorem OJ{rs:List R}(h:m_ rs=0):rs.length<=64:=by
 unfold m_ at h;split at h
 ·cases h
 ·omega
def yH(rs:List R):List R:=if 70<rs.length then rs.take 70 else rs
theorem Km{rs:List R}(h:∀r∈rs,r.Ok):∀r∈yH rs,r.Ok:=by
 unfold yH;intro r hr;split at hr
 ·exact h r (List.mem_of_mem_take hr)
 ·exact h r hr
theorem vu(w:World)(T:TypeId)(base:Nat)(hb:base<=w.heap.size):(w.alloc (.cells #[] T)).ownsRow base T 10 (.slice (some ⟨w.heap.size,0,none⟩) 0 0) 0 []:=by
 refine⟨rfl,.inr ⟨w.heap.size,0,#[],rfl,hb,heap_alloc_new w _,Nat.le_refl _,by unfold maxLen;omega,rfl,rfl⟩⟩
theorem Fk{w:World}{base T:Nat}{v:Value}{rs:List R}(h:w.ownsRow base T 10 v rs.length (aI rs)):gK w w.heap.size v rs/\(0<rs.length->∀a n c,v = .slice (some a) n c->base<=a.block):=by
 refine⟨gK.oH h,λhp a n c e=>?_⟩
 rcases h.2 with⟨h1,h2⟩ | ⟨g,cap,cur,h1,h2,_⟩
 ·omega
 ·rw[h1]at e;injection e with e;injection e with e;rw[← e];exact h2
theorem nil_eq(A:Option Addr)(n c:Nat)(W:World):(binOp .eql 25 (.slice A n c) (.slice none 0 0)).run Tryz.prog W = .ok (.bool A.isNone) W:=by
 have h:(Op.equal 25 (.slice A n c) (.slice none 0 0)).run Tryz.prog W = .ok A.isNone W:=by
  show(Op.equalIn (9999+1) 25 _ _).run _ _=_;rw[Op.equalIn]
  cases A <;> simp[run_underlying Tryz.underlying25]
 simp[binOp,h]
theorem qz{w W0:World}{ops:Array Oper}{rest:List Oper}{o:Oper}{a:Act}{Q:Exit->Act->World->Prop}(hgd:o.guard=none)(s x:Operand)
  (ho:o.op = .call { callee:=.builtin .append,args:=#[s,x],argTypes:=#[25,25] })
  (v:Value) (xs:List R) (hs:a.eval s=v) (hown:w.ownsRow W0.heap.size 80 10 v xs.length (aI xs)) (hbel:Below W0.heap.size W0 w)
  (B:Nat) (A:Option Addr) (m c:Nat) (ys:List R) (hx:a.eval x = .slice A m c) (hm:ys.length=m) (hr:gK w B (.slice A m c) ys) (hlen:xs.length+m<=100000)
  (h:∀v' w',Hid (w'.ownsRow W0.heap.size 80 10 v' (xs++ys).length (aI (xs++ys)))->Hid (Below W0.heap.size W0 w')->wpList Tryz.prog ops Q rest (a.put o.dst v') w') :
  wpList Tryz.prog ops Q (o::rest) a w:=by
 have h1:=Ma.tg (Kt:=wpList Tryz.prog ops Q rest) (Q:=Q) (ops:=ops) (E:=False) W0 hgd s x ho v xs hs hown hbel B A m c ys hx hm hr hlen h
 have hw:Region.wanted o (yielded ops a.tmps)=true:=by simp[Region.wanted,hgd]
 rw[if_pos hw]at h1
 unfold wpList
 rw[if_pos hw]
 exact .inl h1
theorem qY(A:Option Addr)(n c:Nat)(rs:List R)(w:World)(hn:rs.length=n)(hr:gK w w.heap.size (.slice A n c) rs)(hm:n<=100000) :
  Calls Tryz.prog 34 #[.slice A n c] w λe w'=>∃v,e = .returned v/\gK w' w'.heap.size v rs/\(0<rs.length->∀a n c,v = .slice (some a) n c->w.heap.size<=a.block)/\Below w.heap.size w w':=by
 rcases A with _ | ad
 ·have h0:rs=[]:=by
   obtain⟨A',c',e,_,_,h4⟩:=hr;injection e with e1 e2 e3;subst e1
   rcases Nat.eq_zero_or_pos rs.length with h | h
   ·exact List.eq_nil_of_length_eq_zero h
   ·obtain⟨b,off,e,_⟩:=h4 h;cases e
  subst h0;have heq:=nil_eq none n c;simp only[Option.isNone_none]at heq;clear hr hm;go_in;go_wp2_with fail;go_ret;exact⟨_,rfl,gK.nil _ _,λh=>absurd h zs,Below.refl _ _⟩
 ·have HB:=hid (ae w (.cells #[] 80));have HR:=hid (hr.keep λp hp=>HB.out.cell hp);have HN:=hid hn;have HM:=hid hm;have heq:=nil_eq (some ad) n c;simp only[Option.isNone_some]at heq;clear hr hn hm;go_in;go_wp2_with (at_builtin;(refine qz (W0:=w) rfl (.tmp 5) (.tmp 6) rfl _ [] rfl (vu w 80 w.heap.size zl) HB.out w.heap.size (some ad) n c rs rfl HN.out HR.out (by simp;exact HM.out) ?_;intro v' w' H1 H2));go_ret;exact⟨_,rfl,(Fk H1.out).1,(Fk H1.out).2,H2.out⟩
theorem cL(A:Option Addr)(n c:Nat)(rs:List R)(w:World)(he:Env w)(hn:rs.length=n)(hr:gK w w.heap.size (.slice A n c) rs)(ho:∀r∈rs,r.Ok) :
  Calls Tryz.prog 60 #[.slice A n c] w λe w'=>e = .returned (.int .i64 (m_ rs))/\Below w.heap.size w w':=by
 by_cases Yw:64<n
 ·have HF:=hid (LU (rs:=rs) zo)
  have hm:n<=maxLen:=by obtain⟨A',c',e,h1,h2,_⟩:=hr;omega
  unfold maxLen at hm;clear he hn hr ho;go_in;go_wp2_with fail;go_ret;exact⟨by rw[HF.out];rfl,Below.refl _ _⟩
 have TD:=hid hr
 have HN:=hid hn
 have HO:=hid ho
 have HE:=hid he
 clear he hn hr ho
 go_in
 go_wp2_with fail
 go_loopw [10] (λi wr=>∃j:Nat,j<=n/\i = .int .i64 (j:Int)/\Hid (Below w.heap.size w wr)/\Hid (∀(i:Nat) q,i<j->rs[i]? = some q->eY q=true)) (λi _=>n - (RowKit.intOf i).toNat)
 case atStart=>exact⟨0,by omega,rfl,Below.refl _ _,(show Hid _ from λi q hi=>absurd hi (Nat.not_lt_zero _))⟩
 case round =>
  obtain⟨j,hj,rfl,HB,Sz⟩:=hrel;by_cases hlt:j<n
  ·obtain⟨r,OH⟩:∃x,rs[j]? = some x:=⟨_,List.getElem?_eq_getElem (by have:=HN.out;omega)⟩;obtain⟨b,off,cap,hv,hg,ht⟩:=zF TD.out OH;injection hv with hv1 C2 CF;subst hv1 CF;obtain⟨x0,x1,x2,x3,x4,x5,x6,x7,x8,x9⟩:=ht.below HB.out hg;have HX:=hid (Ma.eD.box wr r);have HW:=hid (aA HB.out (ae wr (.cells (Ma.rK r) 80)));have HG:=hid (Ah.BQ r (HO.out r (List.mem_of_getElem? OH)) (wr.alloc (.cells (Ma.rK r) 80)) (HE.out.below HW.out).ah);obtain⟨y0,y1,y2,y3,y4,y5,y6,y7,y8,y9⟩:=HX.out.cells;have TF:=hid OH;clear OH ht C2 hg
   cases hh:eY r with
   | true =>
    rw[hh]at HG
    have HF:Hid (∀(i:Nat) q,i<j+1->rs[i]? = some q->eY q=true):=by
     show ∀(i:Nat) q,i<j+1->rs[i]? = some q->eY q=true;intro i q hi hq;by_cases e:i=j
     ·subst e;rw[TF.out]at hq;injection hq with hq;rw[← hq];exact hh
     ·exact Sz.out i q zo hq
    clear hh
    go_wp2_with fail
    refine HG.out.mono ?_
    rintro e w1 ⟨rfl,hb⟩
    have dF:=hid (aA HW.out hb)
    clear hb x0 x1 x2 x3 x4 x5 x6 x7 x8 x9 y0 y1 y2 y3 y4 y5 y6 y7 y8 y9
    go_wp2_with fail
    go_roundw
    case rel=>exact⟨j+1,by omega,by go_num,dF.out,HF.out⟩
    case measure=>simp[RowKit.intOf];omega
   | false =>
    rw[hh]at HG
    have HF:=hid (OI (rs:=rs) (by have:=HN.out;omega) TF.out hh)
    clear hh
    go_wp2_with fail
    refine HG.out.mono ?_
    rintro e w1 ⟨rfl,hb⟩
    have dF:=hid (aA HW.out hb)
    clear hb x0 x1 x2 x3 x4 x5 x6 x7 x8 x9 y0 y1 y2 y3 y4 y5 y6 y7 y8 y9
    go_wp2_with fail
    go_ret
    exact⟨by rw[HF.out];rfl,dF.out⟩
  ·obtain rfl:j=n:=zo;have HF:=hid (Rf (rs:=rs) (by have:=HN.out;omega) (by rw[HN.out];exact Sz.out));go_wp2_with fail;go_ret;exact⟨by rw[HF.out];rfl,HB.out⟩
end Au
namespace Au
open ak
open aE (R)
open iw (K fst j3 rp)
open cB (nZ)
def zT(p:K):Bool:=nZ p.ds p.dp p.sr p.sp
def cv(p:K):Ke:=if zT p then⟨p.ds,p.sr,p.dp,p.sp,p.pr⟩else⟨p.sr,p.ds,p.sp,p.dp,p.pr⟩
theorem tG{p:K}(h:p.Ok):(cv p).Ok:=by
 have:=h.pr;have:=h.sr;have:=h.ds;have:=h.sp;have:=h.dp
 unfold cv;split <;> exact⟨by assumption,by assumption,by assumption,by assumption,by assumption⟩
def Fm(s:St)(k:Ke):St:=match find k s.fs with
 | some _=>{ s with g:=s.g - 1,fs:=drop k s.fs }
 | none=>s
def WK(s:St)(k:Ke):Bool:=match find k s.fs with
 | some f=>Fl.kE f.c f.n f.s s.c
 | none=>false
def D5(s:St)(k:Ke):St:=if WK s k then Fm s k else s
def P4(s:St)(n:Int):St:={ s with c:=Ga.later s.c n }
def Rh(f:Fl)(p:K):Bool:=Fs.MV f.s (zT p != f.dn) (p.pr:Int) (p.fl:Int) (p.kd:Int)
def wq(f:Fl)(p:K):Int:=Fs.NP f.s (zT p != f.dn) (p.pr:Int) (p.fl:Int) (p.kd:Int)
def LW(T:Nat->Int)(c:Int)(f:Fl)(p:K):Fl :=
 if Rh f p then { f with c:=Fl.clip (Fs.ug T (wq f p) c),n:=Fl.up f.n,s:=wq f p % 16 }else { f with c:=Fl.clip f.c,n:=Fl.up f.n,s:=f.s % 16 }
def TG(T:Nat->Int)(s:St)(f:Fl)(p:K):St:={ s with fs:=put (LW T s.c f p) s.fs }
def LX(p:K):Bool:=Fs.J9 (p.pr:Int) (p.fl:Int) (p.kd:Int)
def ww(p:K):Int:=Fs.Ge (p.pr:Int) (p.fl:Int) (p.kd:Int)
def Rj(N:Int)(s:St)(p:K):Int:=if j3 s.rl (fst p s.rl)=false then 3 else if LX p=false then 4 else if N<=s.g then 5 else 1
def OK(T:Nat->Int)(c:Int)(p:K):Fl:={ k:=cv p,c:=Fl.clip (Fs.ug T (ww p) c),n:=Fl.up 0,s:=ww p % 16,dn:=zT p }
def Rk(N:Int)(T:Nat->Int)(s:St)(p:K):St:=if Rj N s p=1 then { s with g:=s.g+1,fs:=ins (OK T s.c p) s.fs }else s
def Rl(N:Int)(T:Nat->Int)(s:St)(p:K):St:=match find (cv p) (D5 s (cv p)).fs with
 | some f=>TG T (D5 s (cv p)) f p
 | none=>Rk N T (D5 s (cv p)) p
def dW(s:St)(rl:List R):Int×Int:=if m_ rl≠0 then(0,m_ rl)else if s.v=4095 then(0,2)else(s.v+1,0)
def aP(s:St)(rl:List R):St:=if (dW s rl).2=0 then { s with v:=s.v+1,rl:=rl }else s
theorem LY:∀(s:Fin 16) (r:Bool) (f:Fin 256),kD.uh (s.val:Int) r f.val=true->1<=kD.sE (s.val:Int) r f.val/\kD.sE (s.val:Int) r f.val<=9:=by decide +kernel
theorem LZ:∀(f:Fin 256),kD.sG f.val=true->1<=kD.sH f.val/\kD.sH f.val<=9:=by decide +kernel
theorem OL{f:Fl}{p:K}(hf:f.Ok)(hp:p.Ok)(h:Rh f p=true):1<=wq f p/\wq f p<=9:=by
 unfold Rh Fs.MV at h;unfold wq Fs.NP;have h0:=hf.fit.v0;have h1:=hf.fit.v1;have h2:=hp.fl;split
 ·rename_i h6;rw[if_pos h6]at h;have e:f.s=((⟨f.s.toNat,by omega⟩:Fin 16).val:Int):=zt;have h3:=LY ⟨f.s.toNat,by omega⟩ (zT p != f.dn) ⟨p.fl,by omega⟩;rw[← e]at h3;exact h3 (by simpa using h)
 ·rename_i h6;rw[if_neg h6]at h;split
  ·rename_i h7;rw[if_pos h7]at h;unfold Fs.Bf at h
   have h8:f.s=8\/f.s=9:=by simpa using h
   unfold Fs.Be;rw[if_pos h8]
   split <;> omega
  ·rename_i h7
   rw[if_neg h7]at h;cases h
theorem OM{p:K}(hp:p.Ok)(h:LX p=true):1<=ww p/\ww p<=9:=by
 unfold LX Fs.J9 at h;unfold ww Fs.Ge;have h2:=hp.fl;split
 ·rename_i h6;rw[if_pos h6]at h;have h3:=LZ ⟨p.fl,by omega⟩;simp only[Int.toNat_natCast]at h ⊢;exact h3 h
 ·rename_i h6;rw[if_neg h6]at h
  have h7:((p.pr:Int)=17\/(p.pr:Int)=1/\(p.kd:Int)=8):=by simpa using h
  rw[if_pos h7];omega
end Au
namespace Au
open ak
open aE (R)
open iw (K fst j3 rp)
theorem Inv.L1{N:Int}{s:St}(H:Inv N s){k:Ke}{f:Fl}(h:find k s.fs=some f):s.g≠0:=by
 have h1:=(b6 h).1;have h2:=H.cnt;intro e;rw[e]at h2;have:s.fs=[]:=List.eq_nil_of_length_eq_zero zo
 rw[this]at h1;cases h1
theorem Inv.drop{N:Int}{s:St}(H:Inv N s)(k:Ke):Inv N (Fm s k):=by
 unfold Fm
 cases h:find k s.fs with
 | none=>exact H
 | some f =>
  have h0:=H.L1 h
  have h1:=H.fit
  have h2:=H.vL.tW h
  have h3:=H.cnt
  have h4:=H.cap
  refine⟨⟨h1.c0,h1.c1,?_,?_,h1.v0,h1.v1⟩,?_,?_,H.vR,H.vL.drop k,H.rls,H.yH,H.tl⟩
  ·show 0<=s.g - 1;omega
  ·show s.g - 1<4096;have:=h1.k1;omega
  ·show s.g - 1=((ak.drop k s.fs).length:Int);omega
  ·show s.g - 1<=N;omega
theorem Inv.del{N:Int}{s:St}(H:Inv N s)(k:Ke):Inv N (D5 s k):=by
 unfold D5;split
 ·exact H.drop k
 ·exact H
theorem Inv.tick{N:Int}{s:St}(H:Inv N s)(n:Int):Inv N (P4 s n):=by
 have HL:=Ga.rf (n:=n) H.fit;exact⟨⟨HL.1,HL.2.1,H.fit.k0,H.fit.k1,H.fit.v0,H.fit.v1⟩,H.cnt,H.cap,H.vR,H.vL,H.rls,H.yH,H.tl⟩
theorem abH{T:Nat->Int}{c:Int}{f:Fl}{p:K}(hf:f.Ok)(hp:p.Ok):(LW T c f p).Ok/\(LW T c f p).k=f.k:=by
 unfold LW;have h1:=Fl.qi f.c;have h2:=Fl.De hf.fit.k0 hf.fit.k1;have h3:=Fl.qi (Fs.ug T (wq f p) c);have h5:=hf.lo;have h6:=hf.hi;split
 ·rename_i hb;have h4:=OL hf hp hb;exact⟨⟨hf.k,⟨h3.1,h3.2,h2.1,h2.2,by show 0<=wq f p % 16;omega,by show wq f p % 16<16;omega⟩,by show 1<=wq f p % 16;omega,by show wq f p % 16<=9;omega⟩,rfl⟩
 ·exact⟨⟨hf.k,⟨h1.1,h1.2,h2.1,h2.2,by show 0<=f.s % 16;omega,by show f.s % 16<16;omega⟩,by show 1<=f.s % 16;omega,by show f.s % 16<=9;omega⟩,rfl⟩
theorem OP{T:Nat->Int}{c:Int}{p:K}(hp:p.Ok)(hb:LX p=true):(OK T c p).Ok:=by
 unfold OK;have h3:=Fl.qi (Fs.ug T (ww p) c);have h2:=Fl.De (k:=0) zo zo;have h4:=OM hp hb;exact⟨tG hp,⟨h3.1,h3.2,h2.1,h2.2,by show 0<=ww p % 16;omega,by show ww p % 16<16;omega⟩,by show 1<=ww p % 16;omega,by show ww p % 16<=9;omega⟩
theorem Inv.Z3{N:Int}{T:Nat->Int}{s:St}(H:Inv N s){f:Fl}{p:K}(hf:f∈s.fs)(hp:p.Ok):Inv N (TG T s f p) :=
 ⟨H.fit,by show s.g=((put (LW T s.c f p) s.fs).length:Int);rw[yp];exact H.cnt,H.cap,H.vR,H.vL.put (abH (H.vL.ok f hf) hp).1,H.rls,H.yH,H.tl⟩
theorem L3{N:Int}{s:St}{p:K}(h:Rj N s p=1):j3 s.rl (fst p s.rl)=true/\LX p=true/\¬N<=s.g:=by
 unfold Rj at h;split at h
 ·omega
 ·rename_i h1;split at h
  ·omega
  ·rename_i h2;split at h
   ·omega
   ·rename_i h3;exact⟨by simpa using h1,by simpa using h2,h3⟩
theorem Inv.Z4{N:Int}{T:Nat->Int}{s:St}(H:Inv N s){p:K}(hp:p.Ok)(hk:find (cv p) s.fs=none):Inv N (Rk N T s p):=by
 unfold Rk;split
 ·rename_i h;obtain⟨_,h2,h3⟩:=L3 h;have h1:=H.fit;have h4:=H.cnt;have h5:=H.vR;refine⟨⟨h1.c0,h1.c1,?_,?_,h1.v0,h1.v1⟩,?_,?_,H.vR,H.vL.ins (OP hp h2) hk,H.rls,H.yH,H.tl⟩
  ·show 0<=s.g+1;have:=h1.k0;omega
  ·show s.g+1<4096;omega
  ·show s.g+1=((ins (OK T s.c p) s.fs).length:Int);rw[tA];omega
  ·show s.g+1<=N;omega
 ·exact H
theorem Inv.act{N:Int}{T:Nat->Int}{s:St}(H:Inv N s){p:K}(hp:p.Ok):Inv N (Rl N T s p):=by
 have h1:=H.del (cv p);unfold Rl
 cases h:find (cv p) (D5 s (cv p)).fs with
 | none=>exact h1.Z4 hp h
 | some f=>exact h1.Z3 (b6 h).1 hp
theorem Inv.swap{N:Int}{s:St}(H:Inv N s){rl:List R}(ho:∀r∈rl,r.Ok):Inv N (aP s rl):=by
 unfold aP;split
 ·rename_i h
  have hw : ¬m_ rl≠0/\¬s.v=4095:=by
   unfold dW at h;split at h
   ·rename_i h2;exact absurd h h2
   ·rename_i h2;split at h
    ·cases h
    ·rename_i h3;exact⟨h2,h3⟩
  have h1:=H.fit;exact⟨⟨h1.c0,h1.c1,h1.k0,h1.k1,by show 0<=s.v+1;have:=h1.v0;omega,by show s.v+1<4096;have:=h1.v1;have:=hw.2;omega⟩,H.cnt,H.cap,H.vR,H.vL,ho,OJ (Decidable.not_not.1 hw.1),H.tl⟩
 ·exact H
section
variable {w:World}{O:Nat->Prop}{B M:Nat}{N:Int}{T:Nat->Int}{s:St}
end
end Au
end Go.Proofs.YtbhnbcadgmagpaaGreatDoor
namespace Go.Proofs.YtbhnbcadgmagpaaGreatDoor
open Go.ChangeShapes Go.WideShapes Go.ChangeAt Go.RowKit Go.aN Go.Lib
namespace Au
open ak
open aE (R)
open iw (K fst j3 rp)
end Au
namespace Au
open ak
open aE (R)
section
variable {w:World}{O:Nat->Prop}{B M:Nat}{N:Int}{T:Nat->Int}{s:St}
end
end Au
end Go.Proofs.YtbhnbcadgmagpaaGreatDoor
namespace Go.Proofs.YtbhnbcadgmagpaaGreatDoor
open Go.ChangeShapes Go.WideShapes Go.ChangeAt Go.RowKit Go.aN Go.Lib
namespace Au
open ak
open aE (R)
section
variable {w:World}{O:Nat->Prop}{B M:Nat}{N:Int}{T:Nat->Int}{s:St}
end
end Au
end Go.Proofs.YtbhnbcadgmagpaaGreatDoor
namespace Go.Proofs.YtbhnbcadgmagpaaGreatDoor
open Go.ChangeShapes Go.WideShapes Go.ChangeAt Go.RowKit Go.aN Go.Lib
namespace Au
open ak
open aE (R)
open cB (bN)
theorem oW(x:Int)(w:World):Calls Tryz.prog 59 #[.int .u64 x] w λe w'=>e = .returned (.int .i64 (vq x))/\w=w':=by
 have HO:=hid (λW=>mA x W);generalize vq x=y at HO;go_in;go_wp2_with (go_at_call 92;refine(HO.out _).mono ?_;rintro e w' ⟨rfl,rfl⟩);go_ret;exact⟨rfl,rfl⟩
abbrev iT(z N:Int)(T:Nat->Int):Array Value:=#[.int .i64 z,.int .i64 N,.int .i64 (T 0),.int .i64 (T 1),.int .i64 (T 2),.int .i64 (T 3),.int .i64 (T 4),.int .i64 (T 5),.int .i64 (T 6),.int .i64 (T 7),.int .i64 (T 8),.int .i64 (T 9),.int .i64 (T 10),.int .i64 (T 11),.int .i64 (T 12),.int .i64 (T 13),.int .i64 (T 14),.int .i64 (T 15)]
def wA(z N:Int):Bool:=bN z&&(decide (1<=N)&&decide (N<=4095))
def oZ(z N:Int)(rs:List R):Int:=if wA z N then m_ rs else 1
theorem tZ{z:Int}(h1:1<=z)(h2:z<=4096):(vq z==1)=bN z:=by
 have e:z=((⟨z.toNat,by omega⟩:Fin 4097).val:Int):=zt;have h:=B_ ⟨z.toNat,by omega⟩
 rwa [← e]at h
section
variable {w:World}
theorem Fo(z N:Int)(T:Nat->Int)(hz : -9223372036854775808<=z/\z<=9223372036854775807)(he:Env w)(A:Option Addr)(n c:Nat)(rs:List R)(hn:rs.length=n)(hr:gK w w.heap.size (.slice A n c) rs)(ho:∀r∈rs,r.Ok) :
  Calls Tryz.prog 31 #[.agg (iT z N T),.slice A n c] w λe w'=>e = .returned (.int .i64 (oZ z N rs))/\Below w.heap.size w w':=by
 have HB:=hid (ae w (.cells (iT z N T) 24))
 have HC:Hid (∀W,Below w.heap.size w W->Calls Tryz.prog 60 #[.slice A n c] W λe w'=>e = .returned (.int .i64 (m_ rs))/\Below W.heap.size W w'):=λW h =>
  cL A n c rs W (he.below h) hn (hr.below h) ho
 have HX:=hid (aF.box w (iT z N T) 24)
 have c0:=HX.out.cell 0 _ rfl
 have c1:=HX.out.cell 1 _ rfl
 obtain⟨V,hV⟩:∃V,V=oZ z N rs:=⟨_,rfl⟩
 rw[← hV]
 have HV:=hid hV
 clear he hn hr ho hV
 by_cases h1:1<=z
 ·by_cases h2:z<=4096
  ·have HP:=hid (tZ h1 h2);have HO:=hid (λW=>oW z W)
   have hw:IntKind.u64.wrap z=z:=by simp[IntKind.wrap,IntKind.bits,IntKind.signed];omega
   generalize vq z=oz at HP HO
   cases hp:bN z with
   | false =>
    have hv:V=1:=by rw[HV.out];unfold oZ wA;rw[if_neg (by rw[hp];simp)]
    have hq:(oz==1)=false:=HP.out.trans hp
    clear hp HV
    go_in
    go_wp2_with fail
    go_at_call 59
    refine(HO.out _).mono ?_
    rintro e w1 ⟨rfl,rfl⟩
    go_wp2_with fail
    go_ret
    exact⟨by rw[hv];rfl,HB.out⟩
   | true =>
    have hq:(oz==1)=true:=HP.out.trans hp
    by_cases n1:1<=N
    ·by_cases n2:N<=4095
     ·have hv:V=m_ rs:=by rw[HV.out];unfold oZ wA;rw[if_pos (by rw[hp,decide_eq_true n1,decide_eq_true n2];rfl)]
      have d1:decide (N<1)=false:=decide_eq_false zo;have d2:decide (4095<N)=false:=decide_eq_false zo;clear hp HV n1 n2;generalize m_ rs=fe at HC hv;subst hv;go_in;go_wp2_with fail;refine(HO.out _).mono ?_;rintro e w1 ⟨rfl,rfl⟩;go_wp2_with fail;refine(HC.out _ HB.out).mono ?_;rintro e w2 ⟨rfl,hb⟩;have dG:=hid (aA HB.out hb);clear hb c0 c1;go_wp2_with fail;go_ret;exact⟨rfl,dG.out⟩
     ·have hv:V=1:=by rw[HV.out];unfold oZ wA;rw[if_neg (by rw[decide_eq_false n2];simp)]
      have d1:decide (N<1)=false:=decide_eq_false zo;have d2:decide (4095<N)=true:=decide_eq_true zo;clear hp HV n1 n2;go_in;go_wp2_with fail;refine(HO.out _).mono ?_;rintro e w1 ⟨rfl,rfl⟩;go_wp2_with fail;go_ret;exact⟨by rw[hv];rfl,HB.out⟩
    ·have hv:V=1:=by rw[HV.out];unfold oZ wA;rw[if_neg (by rw[decide_eq_false n1];simp)]
     have d1:decide (N<1)=true:=decide_eq_true zo;clear hp HV n1;go_in;go_wp2_with fail;refine(HO.out _).mono ?_;rintro e w1 ⟨rfl,rfl⟩;go_wp2_with fail;go_ret;exact⟨by rw[hv];rfl,HB.out⟩
  ·have hv:V=1:=by rw[HV.out];unfold oZ wA;rw[if_neg (by rw[cB.wO zo];simp)]
   have d2:decide (z<=4096)=false:=decide_eq_false h2;clear HV h2;go_in;go_wp2_with fail;go_ret;exact⟨by rw[hv];rfl,HB.out⟩
 ·have hv:V=1:=by rw[HV.out];unfold oZ wA;rw[if_neg (by rw[cB.wO zo];simp)]
  have d1:decide (1<=z)=false:=decide_eq_false h1;clear HV h1;go_in;go_wp2_with fail;go_ret;exact⟨by rw[hv];rfl,HB.out⟩
end
end Au
end Go.Proofs.YtbhnbcadgmagpaaGreatDoor
namespace Go.Proofs.YtbhnbcadgmagpaaGreatDoor
open Go.ChangeShapes Go.WideShapes Go.ChangeAt Go.RowKit Go.aN Go.Lib
namespace Au
open ak
open aE (R)
end Au
end Go.Proofs.YtbhnbcadgmagpaaGreatDoor
