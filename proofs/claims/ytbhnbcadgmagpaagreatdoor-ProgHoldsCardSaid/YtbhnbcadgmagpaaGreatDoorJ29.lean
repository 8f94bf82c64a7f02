import Derived.Test.YtbhnbcadgmagpaaGreatDoorBih
import Derived.Test.YtbhnbcadgmagpaaGreatDoorJ1
import Derived.Test.YtbhnbcadgmagpaaGreatDoorRows
import Derived.Test.YtbhnbcadgmagpaaGreatDoorJ28
import Derived.Test.YtbhnbcadgmagpaaGreatDoorJ2
import Derived.Test.YtbhnbcadgmagpaaGreatDoorJ3
set_option linter.unusedVariables false
set_option linter.unusedSimpArgs false
set_option maxHeartbeats 4000000
set_option maxRecDepth 100000
namespace Go.Proofs.YtbhnbcadgmagpaaGreatDoor
open Go.ChangeShapes Go.WideShapes Go.ChangeAt Go.RowKit Go.aN Go.Shelf Go.Sort Go.Lib
namespace Ad
open aV (bT bL jM ji dL)
theorem Tq:Tryz.prog.globalNamed "strconv.ErrSyntax" = some 8:=zk
theorem Ts:Tryz.prog.globalNamed "strconv.ErrRange" = some 9:=zk
theorem BN:Tryz.prog.globalNamed "internal/strconv.uint64pow10" = some 10:=zk
structure Env(w:World):Prop where
 max:∃m,w.cell? ⟨3,0,none⟩=some (.int .i64 m)
 VU:∃tp p,w.var? Tryz.prog "strconv.ErrSyntax" = some #[.iface tp p]
 VW:∃tp p,w.var? Tryz.prog "strconv.ErrRange" = some #[.iface tp p]
 dr:TabIs Tryz.prog w "internal/strconv.uint64pow10" .u64 pow10Tab
theorem oN{P:Program}{w:World}{n:String}{g:Nat}{cs:Array Value}(hg:P.globalNamed n=some g)(h:w.var? P n=some cs):g<w.heap.size:=by
 unfold World.var? at h;simp only[hg,Option.bind_some]at h
 rcases Nat.lt_or_ge g w.heap.size with h' | h'
 ·exact h'
 ·rw[Array.getElem?_eq_none h']at h;simp at h
theorem ir{P:Program}{w w':World}{n:String}{g:Nat}{cs:Array Value}(hg:P.globalNamed n=some g)(h:w.var? P n=some cs)(hb:Below w.heap.size w w'):w'.var? P n=some cs:=by
 have hlt:=oN hg h;unfold World.var? at *;simp only[hg,Option.bind_some]at h ⊢;rw[hb.block g hlt];exact h
theorem Env.below{w w':World}(h:Env w)(hb:Below w.heap.size w w'):Env w':=by
 obtain⟨⟨m,h1⟩,⟨t2,p2,h2⟩,⟨t3,p3,h3⟩,h4⟩:=h;have hlt:=World.block_lt_of_cell? _ _ h1;exact⟨⟨m,(hb.cell hlt).trans h1⟩,⟨t2,p2,ir Tq h2 hb⟩,⟨t3,p3,ir Ts h3 hb⟩,ir BN h4 hb⟩
theorem Env.alloc{w:World}(h:Env w)(o:Obj):Env (w.alloc o):=h.below ((Below.refl _ _).alloc zl o)
theorem Env.drewN{w:World}(h:Env w)(n:Nat):Env (w.drewN n):=⟨h.max,h.VU,h.VW,h.dr⟩
theorem below_drewN(w:World)(n:Nat):Below w.heap.size w (w.drewN n):=⟨rfl,rfl,rfl,Nat.le_refl _,λ_ _=>rfl⟩
theorem below_grow(w:World)(k:Nat)(os:Array Obj):Below w.heap.size w (Sort.grow (w.drewN k) os):=by
 refine⟨rfl,rfl,rfl,by simp[Sort.grow],λi hi=>?_⟩;show((w.heap++os)[i]?)=w.heap[i]?;rw[Array.getElem?_append_left hi]
theorem below_bytesWorld(w:World)(e:TypeId)(s:ByteArray):Below w.heap.size w (bytesWorld w e s):=Lib.bytesWorld_below w e s
theorem qu(s:ByteArray):(⟨s.data.toList.toArray⟩:ByteArray)=s:=by cases s;simp
theorem PK{s t:ByteArray}(h:s.data.toList=t.data.toList):s=t:=by rw[← qu s,h,qu]
theorem wh(u:Nat)(hu:u<=255)(w:World)(htab:TabIs Tryz.prog w "internal/strconv.uint64pow10" .u64 pow10Tab) :
  Calls Tryz.prog 294 #[.int .u64 (u:Int),.int .i64 10] w λe w'=>e = .returned (.string ⟨(decDigits u).toArray⟩)/\Below w.heap.size w w':=by
 by_cases hs:u<100
 ·go_in;go_wp2_with (go_at_call 311;refine(Tryz.internal_strconv_small u hs _).mono ?_;rintro e w' ⟨rfl,rfl⟩);go_ret;exact⟨rfl,Below.refl _ _⟩
 ·have hu1:1<=u:=zo;have hu64:u<18446744073709551616:=zo
  have hnd20:nDigits u<=20:=by have:=numDigits_eq u hu1 hu64;split at this <;> omega
  have VH:∀W,(Instr.sliceAt 361 (.pointer (some ⟨w.heap.size,0,none⟩)) none (some (.int .i64 (nDigits u:Int))) none).run Tryz.prog W = .ok (.slice (some ⟨w.heap.size,0,none⟩) (nDigits u) 24) W:=λW=>by
   rw[run_sliceAt_array_h W 361 ⟨w.heap.size,0,none⟩ (by simp[Program.arrayLen,Program.elem,Tryz.underlying361]) .i64 (nDigits u:Int) zo (by simp[Program.arrayLen,Tryz.underlying361];omega)];go_simp
  have VX:=holds_zero0 w 361 (nDigits u) zo;have hfmt:=Tryz.internal_strconv_formatBase10 w.heap.size 0 24 u (Array.replicate (nDigits u) 0) (w.alloc (.cells zeros24 361)) VX (by rw[Array.size_replicate];exact lt_pow_nDigits u) hu64 (by rw[Array.size_replicate];omega);rw[Array.size_replicate]at hfmt;have ZJ:=hid VX;clear VX;go_in;go_wp2_with (go_at_call 312;refine(Tryz.internal_strconv_numDigits u hu1 hu64 _ (tabIs_alloc htab _)).mono ?_;rintro e w' ⟨rfl,rfl⟩);refine hfmt.mono ?_;rintro e w' ⟨rfl,k,v',dk,rfl,hF⟩
  have hcv:(convert 27 9 (.slice (some ⟨w.heap.size,0,none⟩) (nDigits u) 24)).run Tryz.prog ((putRow (λ(b:UInt8)=>Value.int .u8 (b.toNat:Int)) (w.alloc (.cells zeros24 361)) w.heap.size 0 dk).drewN k) = .ok (.string ⟨(decDigits u).toArray⟩) ((putRow (λ(b:UInt8)=>Value.int .u8 (b.toNat:Int)) (w.alloc (.cells zeros24 361)) w.heap.size 0 dk).drewN k):=by
   have h:=run_convert_bytes_back (P:=Tryz.prog) ((putRow (λ(b:UInt8)=>Value.int .u8 (b.toNat:Int)) (w.alloc (.cells zeros24 361)) w.heap.size 0 dk).drewN k) 27 9 5 ⟨w.heap.size,0,none⟩ 24 (decDigits u) Tryz.underlying27 Tryz.underlying5 Tryz.underlying9 (λj hj=>by
    rw[row_is_numeral hF j hj,Lib.add_plain,World.cell?_drewN]
    exact cell?_putRow (λ(b:UInt8)=>Value.int .u8 (b.toNat:Int)) _ w.heap.size 0 _ dk ZJ.out (by rw[hF.size,Array.size_replicate]) j (by rw[hF.size];rw[decDigits_length]at hj;exact hj))
   rw[decDigits_length]at h;exact h
  obtain⟨os,eo⟩:=fin_at w (.cells zeros24 361) dk k 0
  have hb:Below w.heap.size w ((putRow (λ(b:UInt8)=>Value.int .u8 (b.toNat:Int)) (w.alloc (.cells zeros24 361)) w.heap.size 0 dk).drewN k):=by rw[eo];exact Lib.below_grow w.heap.size w zl k os
  have HB:=hid hb;clear eo hb hfmt;go_wp2;go_ret;exact⟨rfl,HB.out⟩
theorem Dz(u:Nat)(hu:u<=255)(w:World)(he:Env w) :
  Calls Tryz.prog 266 #[.int .u64 (u:Int),.int .i64 10] w λe w'=>e = .returned (.string ⟨(decDigits u).toArray⟩)/\Below w.heap.size w w':=by
 have HF:=hid (wh u hu w he.dr)
 clear he
 go_in
 go_wp2_with (go_at_call 294;refine HF.out.mono ?_;rintro e w' ⟨rfl,hb⟩)
 go_ret
 exact⟨rfl,hb⟩
def uV(l:List UInt8):Value:=match bT l with
 | some n=>.tuple #[.int .u8 (n:Int),.bool true]
 | none=>.tuple #[.int .u8 0,.bool false]
theorem iD{l:List UInt8}{n:Nat}(h:bT l=some n):uV l = .tuple #[.int .u8 (n:Int),.bool true]:=by unfold uV;rw[h]
theorem iE{l:List UInt8}(h:bT l=none):uV l = .tuple #[.int .u8 0,.bool false]:=by unfold uV;rw[h]
theorem fB(s:ByteArray)(hs:s.size<=1000000)(w:World)(he:Env w)(h:∀u,parseUintB 8 s.data.toList ≠ .ok u) :
  Calls Tryz.prog 265 #[.string s,.int .i64 10,.int .i64 8] w λe w'=>∃(u:Int) (p:Value),e = .returned (.tuple #[.int .u64 u,.iface 358 p])/\Below w.heap.size w w':=by
 obtain⟨t1,p1,hv1⟩:=he.VU
 obtain⟨t2,p2,C2⟩:=he.VW
 rcases hp:parseUintB 8 s.data.toList with u | _ | _
 ·exact absurd hp (h u)
 ·exact(Any.strconv_ParseUint_10_at8_syntax_var Tryz.laysPu14 s zo hp t1 p1 w hv1).mono λe w' ⟨N,he,_,_,hb⟩=>⟨_,_,he,hb⟩
 ·exact(Any.strconv_ParseUint_10_at8_range_var Tryz.laysPu14 s zo hp t2 p2 w C2).mono λe w' ⟨N,he,_,_,hb⟩=>⟨_,_,he,hb⟩
theorem cW(s:ByteArray)(hs:s.size<=1000000)(w:World)(he:Env w) :
  Calls Tryz.prog 216 #[.string s] w λe w'=>e = .returned (uV s.data.toList)/\Below w.heap.size w w':=by
 by_cases hok:∃u,parseUintB 8 s.data.toList = .ok u
 ·obtain⟨u,hp⟩:=hok
  have hu:u<=255:=by have:=parseUintB_le hp;omega
  have HB:=hid (jM hp);have HP:=hid (Tryz.strconv_ParseUint_10_at8_ok s zo u hp w);have HF:=hid (λW (hb:Below w.heap.size w W)=>Dz u hu W (he.below hb));clear hp he;go_in;go_wp2_with fail;refine HP.out.mono ?_;rintro e w1 ⟨rfl,hw1⟩
  have aK:Below w.heap.size w w1:=by
   rcases hw1 with rfl | rfl
   ·exact Below.refl _ _
   ·exact below_bytesWorld _ _ _
  clear hw1;go_wp2_with fail;refine(HF.out _ aK).mono ?_;rintro e w2 ⟨rfl,aZ⟩;have hb:Below w.heap.size w w2:=aK.trans (aZ.mono aK.size);have Yg:=hid hb;clear hb aK aZ;go_wp2_with fail
  ·have h1:(!decDigits u==s.toList)=true:=zz;rw[ByteArray.toList_eq]at h1
   have h2:bT s.data.toList=none:=by rw[HB.out,if_neg (by simpa using h1)]
   go_ret2;exact⟨by rw[iE h2];rfl,Yg.out⟩
  ·have h1:(!decDigits u==s.toList)=false:=zz;rw[ByteArray.toList_eq]at h1
   have h2:bT s.data.toList=some u:=by rw[HB.out,if_pos (by simpa using h1)]
   go_ret2;exact⟨by rw[iD h2];rfl,Yg.out⟩
 ·have hno:∀u,parseUintB 8 s.data.toList ≠ .ok u:=λu h=>hok ⟨u,h⟩;have HB:=hid (ji hno);have HP:=hid (fB s hs w he hno);clear hok hno he;go_in;go_wp2_with fail;refine HP.out.mono ?_;rintro e w1 ⟨u,p,rfl,aK⟩;go_wp2_with fail;go_ret2;exact⟨by rw[iE HB.out];rfl,aK⟩
end Ad
namespace Ad
open aV (bT bL dL pieces dM fold aX b3 b2 b1 b0)
def parseRes(l:List UInt8):Value:=match dM l with
 | some a=>.tuple #[.int .u32 (a:Int),.int .i64 0]
 | none=>.tuple #[.int .u32 0,.int .i64 3]
theorem j9{l:List UInt8}{a:Nat}(h:dM l=some a):parseRes l = .tuple #[.int .u32 (a:Int),.int .i64 0]:=by unfold parseRes;rw[h]
theorem j_{l:List UInt8}(h:dM l=none):parseRes l = .tuple #[.int .u32 0,.int .i64 3]:=by unfold parseRes;rw[h]
theorem mR(s:ByteArray):s.size=s.data.toList.length:=Array.length_toList.symm
abbrev Of:ByteArray:=⟨#[46]⟩
theorem lN(w:World)(o:Obj):(w.alloc o).heap[w.heap.size]? = some o:=heap_alloc_new w o
theorem Og{a b:Int}(h:a=b):Value.int .u32 a=Value.int .u32 b:=by rw[h]
theorem Tt(x n:Nat)(hx:x<16777216)(hn:n<=255):bits .or .u32 ((x:Int)*256) (n:Int)=((x*256+n:Nat):Int):=by
 rw[show(x:Int)*256=((x*256:Nat):Int) by omega,u32_or_nat _ _ zo zo];have:=aV.Qq x n hx zo;rw[Nat.mod_eq_of_lt zo]at this;rw[this]
theorem b8(s:ByteArray)(hs:s.size<=1000000)(w:World)(he:Env w) :
  Calls Tryz.prog 215 #[.string s] w λe w'=>e = .returned (parseRes s.data.toList)/\Below w.heap.size w w':=by
 obtain⟨m,hm⟩:=he.max
 have HS:=hid (Tryz.strings_Split s Of m w zo hm zd)
 have HL:=hid (aV.oe s Of 46 rfl)
 have HP:=hid (aV.j0 s Of 46 rfl)
 have HF:=hid (aV.Af s.data.toList)
 clear hm
 by_cases h4:(pieces 46 s.data.toList).length=4
 ·have HN:Hid (countB s Of+1=4):=by show _=4;rw[HL.out,h4]
  have I3:Hid (dM s.data.toList=fold 0 (pieces 46 s.data.toList)):=by show _=_;rw[HF.out,if_pos h4]
  have H4:=hid h4;clear h4;rw[HN.out]at HS;generalize hps:splitB Of 0 (countB s Of) s=ps at HS HP;clear HL HF HN hps;have HE:=hid (he.alloc (.cells (ps.map Value.string).toArray 9))
  have VY:Hid (∀(k:Nat) (p:ByteArray),ps[k]? = some p->p.size<=1000000):=by
   intro k p hk;have h1:=aV.tN 46 s.data.toList p.data.toList (by rw[← HP.out];exact List.mem_map.2 ⟨p,List.mem_of_getElem? hk,rfl⟩);have e1:=mR s;have e2:=mR p;omega
  clear he;go_in;go_wp2_with fail;refine HS.out.mono ?_;rintro e w1 ⟨rfl,hw1⟩
  have hc:∀(k:Nat) (p:ByteArray),ps[k]? = some p->w1.cell? ⟨w.heap.size,k,none⟩=some (.string p):=by
   intro k p hk;rw[hw1,cell_of_row _ _ _ _ _ _ (lN _ _)];simp[hk]
  have hb0:Below w.heap.size w w1:=by rw[hw1];exact(Below.refl _ _).alloc zl _
  have hz:w.heap.size<w1.heap.size:=by rw[hw1];simp
  rw[← hw1]at HE;have HC:=hid hc;have qV:=hid hb0;clear hw1 hc hb0;go_wp2_with fail;go_loopw [5,17] (λa i wr=>∃(k x:Nat),k<=4/\i = .int .i64 (k:Int)/\a = .int .u32 (x:Int)/\x<256 ^ k/\Hid (fold 0 (pieces 46 s.data.toList)=fold x ((pieces 46 s.data.toList).drop k))/\Below w1.heap.size w1 wr) (λ_ i _=>4 - (RowKit.intOf i).toNat)
  case atStart=>exact⟨0,0,by omega,rfl,rfl,by simp,by show _=_;rw[List.drop_zero],Below.refl _ _⟩
  case round =>
   obtain⟨k,x,hk,rfl,rfl,hx,hf,hb⟩:=hrel;by_cases hlt:k<4
   ·obtain⟨p,hp⟩:∃p,ps[k]? = some p:=by
     have:ps.length=4:=by
      have:=congrArg List.length HP.out;rw[List.length_map,H4.out]at this;exact this
     exact⟨_,List.getElem?_eq_getElem zo⟩
    have hcell:wr.cell? ⟨w.heap.size,k,none⟩=some (.string p):=(hb.cell hz).trans (HC.out k p hp)
    have Yh:(pieces 46 s.data.toList)[k]? = some p.data.toList:=by rw[← HP.out,List.getElem?_map,hp];rfl
    have Yi:=hid Yh;have Oh:=hid (cW p (VY.out k p hp) wr (HE.out.below hb));clear hp Yh;have VZ:x<16777216:=Nat.lt_of_lt_of_le hx (Nat.le_trans (Nat.pow_le_pow_right zo (show k<=3 by omega)) zd)
    cases hn:bT p.data.toList with
    | none =>
     rw[iE hn]at Oh
     have Tu:=hid hn
     clear hn
     go_wp2_with fail
     go_at_call 216
     refine Oh.out.mono ?_
     rintro e w2 ⟨rfl,aZ⟩
     go_wp2_with fail
     go_ret2
     refine⟨?_,qV.out.trans ((hb.trans (aZ.mono hb.size)).mono zo)⟩
     rw[j_ (I3.out.trans (hf.out.trans (aV.FK Yi.out Tu.out)))]
     rfl
    | some n =>
     have Sj:=dL hn
     rw[iD hn]at Oh
     have Tu:=hid hn
     clear hn
     go_wp2_with fail
     go_at_call 216
     refine Oh.out.mono ?_
     rintro e w2 ⟨rfl,aZ⟩
     go_wp2_with fail
     go_roundw
     case rel =>
      refine⟨k+1,x*256+n,by omega,by go_num,Og (Tt x n VZ Sj),?_,?_,hb.trans (aZ.mono hb.size)⟩
      ·rw[Nat.pow_succ];omega
      ·exact hf.out.trans (aV.FJ Yi.out Tu.out)
     case measure=>simp[RowKit.intOf];omega
   ·obtain rfl:k=4:=zo;have ZK:x<4294967296:=Nat.lt_of_lt_of_le hx zd;go_wp2_with fail;go_ret2;refine⟨?_,qV.out.trans (hb.mono zo)⟩;rw[j9 (I3.out.trans (hf.out.trans (aV.Jm (by rw[H4.out];exact Nat.le_refl _))))];rfl
 ·have HN:Hid (dM s.data.toList=none):=by show _=_;rw[HF.out,if_neg h4]
  have hc:Hid (countB s Of+1≠4):=by show _≠_;rw[HL.out];exact h4
  have hcl:countB s Of<=1000000:=by
   have h1:=HL.out;rw[aV.lg]at h1;have h2:=List.count_le_length (a:=(46:UInt8)) (l:=s.data.toList);have h3:=mR s;omega
  clear h4 HL HF HP he;generalize countB s Of=cnt at HS hc hcl
  have hd:((cnt:Int)+1 != 4)=true:=by have:=hc.out;simp;omega
  go_in;go_wp2_with fail;refine HS.out.mono ?_;rintro e w1 ⟨rfl,hw1⟩
  have hb0:Below w.heap.size w w1:=by rw[hw1];exact(Below.refl _ _).alloc zl _
  have qV:=hid hb0;clear hw1 hb0;go_wp2_with fail;go_ret2;exact⟨by rw[j_ HN.out];rfl,qV.out⟩
theorem dy:(Tryz.prog.info? 5).map (λi=>(i.zero,i.size,i.bytes))=some (some (.int .u8 0),1,1):=zk
def Row(w:World)(l:List UInt8)(v:Value)(wr:World):Prop:=wr.ownsRow w.heap.size 5 1 v l.length (fE l)/\Below w.heap.size w wr
end Ad
namespace Ad
open aV (bT bL dL dM aX aj eX de fm)
theorem mS{P:Program}{f:FuncId}{args:Array Value}{w:World}{v:Value}(h:Calls P f args w λe w'=>e = .returned v/\w=w'):Calls P f args w λe w'=>e = .returned v/\w'=w :=
 h.mono λ_ _ ⟨he,hw⟩=>⟨he,hw.symm⟩
theorem mU:∀k:Fin 33,4294967295*2 ^ k.val % 4294967296=4294967296 - 2 ^ k.val:=by decide +kernel
theorem jo(a k:Nat)(ha:a<4294967296)(hk:k<=32):a &&& (4294967296 - 2 ^ k)=a - a % 2 ^ k:=by
 have e1:4294967296 - 2 ^ k=2 ^ k*(2 ^ (32 - k) - 1):=by
  rw[Nat.mul_sub,← Nat.pow_add,show k+(32 - k)=32 by omega,Nat.mul_one]
 have e2:a - a % 2 ^ k=2 ^ k*(a / 2 ^ k):=by have:=Nat.div_add_mod a (2 ^ k);omega
 rw[e1,e2];apply Nat.eq_of_testBit_eq;intro i;rw[Nat.testBit_and,Nat.testBit_two_pow_mul,Nat.testBit_two_pow_sub_one,Nat.testBit_two_pow_mul,Nat.testBit_div_two_pow];by_cases hi:k<=i
 ·rw[show i - k+k=i by omega];by_cases h32:i<32
  ·simp[hi,show i - k<32 - k by omega]
  ·have:a.testBit i=false:=Nat.testBit_lt_two_pow (Nat.lt_of_lt_of_le ha (Nat.pow_le_pow_right (show 0<2 by omega) (show 32<=i by omega)));simp[this]
 ·simp[hi]
theorem ax{k:IntKind}{a b:Int}(h:a=b):Ending.returned (.int k a) = .returned (.int k b):=by rw[h]
theorem aR{a b:Bool}(h:a=b):Ending.returned (.bool a) = .returned (.bool b):=by rw[h]
theorem mV(a:Nat)(n:Int)(h0:0<=n)(h1:n<=32):((a:Int)==((a - a % 2 ^ (32 - n.toNat):Nat):Int))=aj a n:=by
 unfold aj;rw[decide_eq_true ⟨h0,h1⟩,Bool.true_and,Bool.eq_iff_iff,beq_iff_eq,beq_iff_eq];have:=Nat.mod_le a (2 ^ (32 - n.toNat));omega
theorem fM(a:Nat)(n:Int)(h : ¬(0<=n/\n<=32)):aj a n=false:=by
 unfold aj;rw[decide_eq_false h,Bool.false_and]
abbrev boxed(w:World)(a n:Int):World:=w.alloc (.cells #[.int .u32 a,.int .i64 n] 75)
theorem cq(w:World)(a n:Int)(k:Nat):Below w.heap.size w ((boxed w a n).drewN k):=(((Below.refl _ _).alloc zl _).trans ((below_drewN _ k).mono zs))
theorem jA(a:Nat)(n:Int)(ha:a<4294967296)(h0:0<=n)(h1:n<=32) :
  bits .and .u32 (a:Int) (4294967295*2 ^ (32 - n).toNat % 4294967296)=((a - a % 2 ^ (32 - n.toNat):Nat):Int):=by
 have e:(32 - n).toNat=32 - n.toNat:=zo
 have hm:=mU ⟨32 - n.toNat,by omega⟩
 have hp:2 ^ (32 - n.toNat)<=2 ^ 32:=Nat.pow_le_pow_right zo zo
 simp only[]at hm
 have hz:(4294967295*2 ^ (32 - n).toNat % 4294967296:Int)=((4294967296 - 2 ^ (32 - n.toNat):Nat):Int):=by
  rw[e,← hm];simp
 rw[hz,u32_and_nat _ _ ha (by have:=Nat.pow_pos (n:=32 - n.toNat) (show 0<2 by omega);omega),jo a _ ha zo]
theorem ff(a:Nat)(n:Int)(ha:a<4294967296)(h0:0<=n)(h1:n<=32)(w:World) :
  Calls Tryz.prog 267 #[.int .u32 (a:Int),.int .i64 n] w λe w'=>e = .returned (.int .u32 ((a - a % 2 ^ (32 - n.toNat):Nat):Int))/\w=w':=by
 go_in
 go_wp2
 go_ret
 exact⟨ax (jA a n ha h0 h1),rfl⟩
theorem gu(a:Nat)(n:Int)(ha:a<4294967296)(w:World) :
  Calls Tryz.prog 217 #[.agg #[.int .u32 (a:Int),.int .i64 n]] w λe w'=>e = .returned (.bool (aj a n))/\Below w.heap.size w w':=by
 by_cases h0:0<=n
 ·by_cases h1:n<=32
  ·have HV:=hid (mV a n h0 h1);go_in;go_wp2
   go_quiet ((go_at_call 267;exact Calls.quiet_of_same (mS (ff a n ha h0 h1 _))))
   go_wp2;go_ret;exact⟨aR HV.out,cq _ _ _ _⟩
  ·have HV:=hid (fM a n zo)
   have hd:decide (n<=32)=false:=by simpa using h1
   clear h1;go_in;go_wp2
   go_quiet (fail)
   go_wp2;go_ret;exact⟨aR HV.out.symm,cq _ _ _ _⟩
 ·have HV:=hid (fM a n zo)
  have hd:decide (0<=n)=false:=by simpa using h0
  clear h0;go_in;go_wp2
  go_quiet (fail)
  go_wp2;go_ret;exact⟨aR HV.out.symm,cq _ _ _ _⟩
def aG(w:World)(a n:Int)(w1:World):Prop :=
 w1.cell? ⟨w.heap.size,0,none⟩=some (.int .u32 a)/\w1.cell? ⟨w.heap.size,1,none⟩=some (.int .i64 n)/\Below w.heap.size w w1/\w.heap.size<w1.heap.size
theorem cA(w:World)(a n:Int):aG w a n (boxed w a n) :=
 ⟨by rw[cell_of_row _ _ _ _ _ _ (lN _ _)];rfl,by rw[cell_of_row _ _ _ _ _ _ (lN _ _)];rfl,(Below.refl _ _).alloc zl _,by simp⟩
theorem aG.next{w w1 w2:World}{a n:Int}(h:aG w a n w1)(hb:Below w1.heap.size w1 w2):aG w a n w2 :=
 ⟨(hb.cell h.2.2.2).trans h.1,(hb.cell h.2.2.2).trans h.2.1,h.2.2.1.trans (hb.mono (by have:=h.2.2.2;omega)),by have:=h.2.2.2;have:=hb.size;omega⟩
theorem aG.go{w w1 w2:World}{a n:Int}(h:Hid (aG w a n w1))(hb:Below w1.heap.size w1 w2) :
  w2.cell? ⟨w.heap.size,0,none⟩=some (.int .u32 a)/\w2.cell? ⟨w.heap.size,1,none⟩=some (.int .i64 n)/\Hid (aG w a n w2) :=
 ⟨(h.out.next hb).1,(h.out.next hb).2.1,h.out.next hb⟩
theorem jB{P:Program}(x y:List UInt8)(hx:x.length<=1000000)(hy:y.length<=1000000)(W:World) :
  (Op.stringOp .add ⟨x.toArray⟩ ⟨y.toArray⟩).run P W = .ok (.string ⟨(x++y).toArray⟩) W:=run_string_add_lists W x y zo zo
end Ad
namespace Ad
open aV (bT bL dL dM aX aj eX de fm yh left right bY)
def cu(o:Option (Nat×Nat)):Value:=match o with
 | some (a,n)=>.tuple #[.agg #[.int .u32 (a:Int),.int .i64 (n:Int)],.int .i64 0]
 | none=>.tuple #[.agg #[.int .u32 0,.int .i64 0],.int .i64 3]
abbrev Ls:ByteArray:=⟨#[47]⟩
theorem tF(s:ByteArray)(hs:s.size<=1000000)(w:World)(he:Env w) :
  Calls Tryz.prog 213 #[.string s,.string Ls] w λe w'=>∃b:Bool,e = .returned (.tuple #[.string ⟨(left s.data.toList).toArray⟩,.string ⟨(right s.data.toList).toArray⟩,.bool b])/\∃k,w'=w.drewN k:=by
 obtain⟨m,hm⟩:=he.max
 have h:=Tryz.strings_Cut s Ls m w zo hm
 have e:Ls.data.toList=[47]:=rfl
 rw[e,(aV.Ae _).1,(aV.Ae _).2]at h
 exact h.mono λ_ _ ⟨he,hw⟩=>⟨_,he,hw⟩
theorem Q7(s:ByteArray)(hs:s.data.toList=bY)(w:World) :
  Calls Tryz.prog 161 #[.string s] w λe w'=>e = .returned (cu (some (0,0)))/\Below w.heap.size w w':=by
 have ht:(s.toList==[97,110,121])=true:=by rw[ByteArray.toList_eq,hs];rfl
 clear hs
 go_in
 go_wp2_with fail
 exact bodyPost_ret (v:=cu (some (0,0))) (by simp[results,Tryz.results161,go_sem,cu]) rfl ⟨rfl,(Below.refl _ _).alloc zl _⟩
structure Zero(w w1:World):Prop where
 c0:w1.cell? ⟨w.heap.size,0,none⟩=some (.int .u32 0)
 c1:w1.cell? ⟨w.heap.size,1,none⟩=some (.int .i64 0)
 f0:w1.frozen? ⟨w.heap.size,0,none⟩=false
 f1:w1.frozen? ⟨w.heap.size,1,none⟩=false
 az:Below w.heap.size w w1
 lt:w.heap.size<w1.heap.size
theorem BP(w:World):Zero w (boxed w 0 0) :=
 ⟨(cA w 0 0).1,(cA w 0 0).2.1,World.frozen?_alloc_new _ _ _ _,World.frozen?_alloc_new _ _ _ _,(cA w 0 0).2.2.1,(cA w 0 0).2.2.2⟩
theorem Zero.next{w w1 w2:World}(h:Zero w w1)(hb:Below w1.heap.size w1 w2):Zero w w2 :=
 ⟨(hb.cell h.lt).trans h.c0,(hb.cell h.lt).trans h.c1,(hb.frozen h.lt).trans h.f0,(hb.frozen h.lt).trans h.f1,h.az.trans (hb.mono (by have:=h.lt;omega)),by have:=h.lt;have:=hb.size;omega⟩
theorem Zero.alloc{w w1:World}(h:Zero w w1)(o:Obj):Zero w (w1.alloc o):=h.next ((Below.refl _ _).alloc zl o)
theorem Zero.done{w w1:World}(h:Zero w w1)(u v:Value):Below w.heap.size w ((w1.setCell ⟨w.heap.size,0,none⟩ u).setCell ⟨w.heap.size,1,none⟩ v) :=
 (h.az.setCell (p:=⟨w.heap.size,0,none⟩) zl u).setCell (p:=⟨w.heap.size,1,none⟩) zl v
theorem Zero.read{w w1:World}(h:Zero w w1)(u v:Value) :
  ((w1.setCell ⟨w.heap.size,0,none⟩ u).setCell ⟨w.heap.size,1,none⟩ v).cell? ⟨w.heap.size,0,none⟩=some u ∧
  ((w1.setCell ⟨w.heap.size,0,none⟩ u).setCell ⟨w.heap.size,1,none⟩ v).cell? ⟨w.heap.size,1,none⟩=some v:=by
 refine⟨?_,?_⟩
 ·rw[World.cell?_setCell_other _ _ _ _ zs];exact World.cell?_setCell_same _ _ _ h.c0
 ·exact World.cell?_setCell_same _ _ _ ((World.cell?_setCell_other w1 ⟨w.heap.size,0,none⟩ ⟨w.heap.size,1,none⟩ u zs).trans h.c1)
theorem Ol(s:ByteArray)(hs:s.size<=1000000)(hne:s.data.toList≠bY)(w:World)(he:Env w)(hn:yh (left s.data.toList) (right s.data.toList)=none) :
  Calls Tryz.prog 161 #[.string s] w λe w'=>e = .returned (cu none)/\Below w.heap.size w w':=by
 have ht:(s.toList==[97,110,121])=false:=by rw[ByteArray.toList_eq];simpa[bY]using hne
 have hl:(left s.data.toList).length<=1000000/\(right s.data.toList).length<=1000000:=by
  have h1:=mR s
  rcases(aV.mi s.data.toList).2 with⟨h2,h3,_⟩ | h2
  ·rw[h3,← h2];simp;omega
  ·have:=congrArg List.length h2;simp at this;omega
 have HC:=hid (λW (h:Env W)=>tF s hs W h)
 clear hne
 generalize left s.data.toList=p at hl hn HC
 generalize right s.data.toList=r at hl hn HC
 have HP:=hid (λW (h:Env W)=>b8 ⟨p.toArray⟩ (by simp[ByteArray.size];omega) W h)
 have HR:=hid (λW (h:Env W)=>cW ⟨r.toArray⟩ (by simp[ByteArray.size];omega) W h)
 simp only[List.toList_toArray]at HP HR
 have HE:=hid he
 have HN:=hid (BP w)
 clear hl he
 cases hp:dM p with
 | none =>
  rw[j_ hp]at HP
  clear hp hn
  cases hb:bT r with
  | none =>
   rw[iE hb]at HR
   clear hb
   go_in
   go_wp2_with fail
   go_at_call 213
   refine(HC.out _ (HE.out.alloc _)).mono ?_
   rintro e w1 ⟨b,rfl,k,rfl⟩
   go_wp2_with fail
   go_at_call 215
   refine(HP.out _ ((HE.out.alloc _).drewN k)).mono ?_
   rintro e w2 ⟨rfl,aZ⟩
   have cK:=hid ((HN.out.next (below_drewN _ k)).next aZ)
   clear aZ
   go_wp2_with fail
   go_at_call 216
   refine(HR.out _ (HE.out.below cK.out.az)).mono ?_
   rintro e w3 ⟨rfl,eP⟩
   have eT:=hid (cK.out.next eP)
   clear eP
   have jK:=hid (eT.out.alloc (.cells #[.int .u32 0,.int .i64 0] 75))
   obtain⟨hc0,hc1,Lt,I5,-,-⟩:=jK.out
   go_wp2_with fail
   obtain⟨Lu,hr1⟩:=jK.out.read (.int .u32 0) (.int .i64 0)
   exact bodyPost_ret (v:=cu none) (by simp[results,Tryz.results161,go_sem,cu,Lu,hr1]) rfl ⟨rfl,jK.out.done _ _⟩
  | some n =>
   rw[iD hb]at HR
   have Sj:=dL hb
   clear hb
   go_in
   go_wp2_with fail
   go_at_call 213
   refine(HC.out _ (HE.out.alloc _)).mono ?_
   rintro e w1 ⟨b,rfl,k,rfl⟩
   go_wp2_with fail
   go_at_call 215
   refine(HP.out _ ((HE.out.alloc _).drewN k)).mono ?_
   rintro e w2 ⟨rfl,aZ⟩
   have cK:=hid ((HN.out.next (below_drewN _ k)).next aZ)
   clear aZ
   go_wp2_with fail
   go_at_call 216
   refine(HR.out _ (HE.out.below cK.out.az)).mono ?_
   rintro e w3 ⟨rfl,eP⟩
   have eT:=hid (cK.out.next eP)
   clear eP
   have jK:=hid (eT.out.alloc (.cells #[.int .u32 0,.int .i64 (n:Int)] 75))
   obtain⟨hc0,hc1,Lt,I5,-,-⟩:=jK.out
   go_wp2_with fail
   obtain⟨Lu,hr1⟩:=jK.out.read (.int .u32 0) (.int .i64 0)
   exact bodyPost_ret (v:=cu none) (by simp[results,Tryz.results161,go_sem,cu,Lu,hr1]) rfl ⟨rfl,jK.out.done _ _⟩
 | some a =>
  rw[j9 hp]at HP
  have ha:=aV.qO hp
  cases hb:bT r with
  | none =>
   rw[iE hb]at HR
   clear hb hp hn
   go_in
   go_wp2_with fail
   go_at_call 213
   refine(HC.out _ (HE.out.alloc _)).mono ?_
   rintro e w1 ⟨b,rfl,k,rfl⟩
   go_wp2_with fail
   go_at_call 215
   refine(HP.out _ ((HE.out.alloc _).drewN k)).mono ?_
   rintro e w2 ⟨rfl,aZ⟩
   have cK:=hid ((HN.out.next (below_drewN _ k)).next aZ)
   clear aZ
   go_wp2_with fail
   go_at_call 216
   refine(HR.out _ (HE.out.below cK.out.az)).mono ?_
   rintro e w3 ⟨rfl,eP⟩
   have eT:=hid (cK.out.next eP)
   clear eP
   have jK:=hid (eT.out.alloc (.cells #[.int .u32 (a:Int),.int .i64 0] 75))
   obtain⟨hc0,hc1,Lt,I5,-,-⟩:=jK.out
   go_wp2_with fail
   obtain⟨Lu,hr1⟩:=jK.out.read (.int .u32 0) (.int .i64 0)
   exact bodyPost_ret (v:=cu none) (by simp[results,Tryz.results161,go_sem,cu,Lu,hr1]) rfl ⟨rfl,jK.out.done _ _⟩
  | some n =>
   rw[iD hb]at HR
   have Sj:=dL hb
   by_cases h0:n=0
   ·subst h0;clear hb hp hn;go_in;go_wp2_with fail;refine(HC.out _ (HE.out.alloc _)).mono ?_;rintro e w1 ⟨b,rfl,k,rfl⟩;go_wp2_with fail;refine(HP.out _ ((HE.out.alloc _).drewN k)).mono ?_;rintro e w2 ⟨rfl,aZ⟩;have cK:=hid ((HN.out.next (below_drewN _ k)).next aZ);clear aZ;go_wp2_with fail;refine(HR.out _ (HE.out.below cK.out.az)).mono ?_;rintro e w3 ⟨rfl,eP⟩;have eT:=hid (cK.out.next eP);clear eP;have jK:=hid (eT.out.alloc (.cells #[.int .u32 (a:Int),.int .i64 0] 75));obtain⟨hc0,hc1,Lt,I5,-,-⟩:=jK.out;go_wp2_with fail;obtain⟨Lu,hr1⟩:=jK.out.read (.int .u32 0) (.int .i64 0);exact bodyPost_ret (v:=cu none) (by simp[results,Tryz.results161,go_sem,cu,Lu,hr1]) rfl ⟨rfl,jK.out.done _ _⟩
   ·have hv:aj a (n:Int)=false:=by
     cases hv:aj a (n:Int)with
     | false=>rfl
     | true=>unfold yh at hn;rw[hp,hb]at hn;simp[h0,hv]at hn
    have HV:=hid (λW=>gu a n ha W);rw[hv]at HV
    have hd:((n:Int)==0)=false:=by simp;exact h0
    clear hb hp hn hv h0;go_in;go_wp2_with fail;refine(HC.out _ (HE.out.alloc _)).mono ?_;rintro e w1 ⟨b,rfl,k,rfl⟩;go_wp2_with fail;refine(HP.out _ ((HE.out.alloc _).drewN k)).mono ?_;rintro e w2 ⟨rfl,aZ⟩;have cK:=hid ((HN.out.next (below_drewN _ k)).next aZ);clear aZ;go_wp2_with fail;refine(HR.out _ (HE.out.below cK.out.az)).mono ?_;rintro e w3 ⟨rfl,eP⟩;have eT:=hid (cK.out.next eP);clear eP;have jK:=hid (eT.out.alloc (.cells #[.int .u32 (a:Int),.int .i64 (n:Int)] 75));go_wp2_with fail;have Oi:=hid (cA w3 (a:Int) (n:Int));refine(HV.out _).mono ?_;rintro e w4 ⟨rfl,hb4⟩;obtain⟨hd0,hd1,-,-⟩:=Oi.out.next hb4;have Lg:=hid (jK.out.next hb4);obtain⟨hc0,hc1,Lt,I5,-,-⟩:=Lg.out;clear hb4;go_wp2_with fail;obtain⟨Lu,hr1⟩:=Lg.out.read (.int .u32 0) (.int .i64 0);exact bodyPost_ret (v:=cu none) (by simp[results,Tryz.results161,go_sem,cu,Lu,hr1]) rfl ⟨rfl,Lg.out.done _ _⟩
theorem Lx(s:ByteArray)(hs:s.size<=1000000)(hne:s.data.toList≠bY)(w:World)(he:Env w)(a n:Nat)(hn:yh (left s.data.toList) (right s.data.toList)=some (a,n)) :
  Calls Tryz.prog 161 #[.string s] w λe w'=>e = .returned (cu (some (a,n)))/\Below w.heap.size w w':=by
 have ht:(s.toList==[97,110,121])=false:=by rw[ByteArray.toList_eq];simpa[bY]using hne
 have hl:(left s.data.toList).length<=1000000/\(right s.data.toList).length<=1000000:=by
  have h1:=mR s
  rcases(aV.mi s.data.toList).2 with⟨h2,h3,_⟩ | h2
  ·rw[h3,← h2];simp;omega
  ·have:=congrArg List.length h2;simp at this;omega
 have HC:=hid (λW (h:Env W)=>tF s hs W h)
 clear hne
 generalize left s.data.toList=p at hl hn HC
 generalize right s.data.toList=r at hl hn HC
 have HP:=hid (λW (h:Env W)=>b8 ⟨p.toArray⟩ (by simp[ByteArray.size];omega) W h)
 have HR:=hid (λW (h:Env W)=>cW ⟨r.toArray⟩ (by simp[ByteArray.size];omega) W h)
 simp only[List.toList_toArray]at HP HR
 have HE:=hid he
 have HN:=hid (BP w)
 clear hl he
 obtain⟨hp,hb,h0,hv⟩:=aV.wS hn
 rw[j9 hp]at HP
 have ha:=aV.qO hp
 rw[iD hb]at HR
 have Sj:=dL hb
 have HV:=hid (λW=>gu a n ha W)
 rw[hv]at HV
 have hd:((n:Int)==0)=false:=by simp;exact h0
 clear hb hp hn hv h0
 go_in
 go_wp2_with fail
 refine(HC.out _ (HE.out.alloc _)).mono ?_
 rintro e w1 ⟨b,rfl,k,rfl⟩
 go_wp2_with fail
 refine(HP.out _ ((HE.out.alloc _).drewN k)).mono ?_
 rintro e w2 ⟨rfl,aZ⟩
 have cK:=hid ((HN.out.next (below_drewN _ k)).next aZ)
 clear aZ
 go_wp2_with fail
 refine(HR.out _ (HE.out.below cK.out.az)).mono ?_
 rintro e w3 ⟨rfl,eP⟩
 have eT:=hid (cK.out.next eP)
 clear eP
 have jK:=hid (eT.out.alloc (.cells #[.int .u32 (a:Int),.int .i64 (n:Int)] 75))
 go_wp2_with fail
 have Oi:=hid (cA w3 (a:Int) (n:Int))
 refine(HV.out _).mono ?_
 rintro e w4 ⟨rfl,hb4⟩
 obtain⟨hd0,hd1,-,-⟩:=Oi.out.next hb4
 have Lg:=hid (jK.out.next hb4)
 obtain⟨hc0,hc1,Lt,I5,-,-⟩:=Lg.out
 clear hb4
 go_wp2_with fail
 obtain⟨Lu,hr1⟩:=Lg.out.read (.int .u32 (a:Int)) (.int .i64 (n:Int))
 exact bodyPost_ret (v:=cu (some (a,n))) (by simp[results,Tryz.results161,go_sem,cu,Lu,hr1]) rfl ⟨rfl,Lg.out.done _ _⟩
theorem On(s:ByteArray)(hs:s.size<=1000000)(w:World)(he:Env w) :
  Calls Tryz.prog 161 #[.string s] w λe w'=>e = .returned (cu (fm s.data.toList))/\Below w.heap.size w w':=by
 unfold fm
 by_cases h:s.data.toList=bY
 ·rw[if_pos h];exact Q7 s h w
 ·rw[if_neg h]
  cases hn:yh (left s.data.toList) (right s.data.toList)with
  | none=>exact Ol s hs h w he hn
  | some x=>exact Lx s hs h w he x.1 x.2 hn
end Ad
end Go.Proofs.YtbhnbcadgmagpaaGreatDoor
