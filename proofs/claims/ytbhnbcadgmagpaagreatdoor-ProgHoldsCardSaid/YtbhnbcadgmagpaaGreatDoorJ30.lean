import Derived.Test.YtbhnbcadgmagpaaGreatDoorBih
import Derived.Test.YtbhnbcadgmagpaaGreatDoorJ1
import Derived.Test.YtbhnbcadgmagpaaGreatDoorJ8
import Derived.Test.YtbhnbcadgmagpaaGreatDoorJ28
import Derived.Test.YtbhnbcadgmagpaaGreatDoorJ3
set_option linter.unusedVariables false
set_option linter.unusedSimpArgs false
set_option maxHeartbeats 1000000
set_option maxRecDepth 100000
namespace Go.cC
open Go.Lib
def lQ(x:Nat):Bool:=!decide (x=10)&&(decide (x<32)||decide (126<x))
theorem xK(b:UInt8):lQ b.toNat = !iP b:=by
 have:=b.toNat_lt
 have e:(b==10)=decide (b.toNat=10):=by
  rw[Bool.eq_iff_iff,beq_iff_eq,decide_eq_true_iff];exact⟨λh=>by rw[h];rfl,λh=>UInt8.toNat_inj.1 h⟩
 unfold lQ iP;rw[e,Bool.eq_iff_iff];simp
theorem decode_high(n b0 b1 b2 b3:Nat)(h:128<=b0):126<(decodeN n b0 b1 b2 b3).1:=by
 unfold decodeN
 repeat' split
 all_goals simp only
 all_goals omega
theorem Q8(s:ByteArray):∀(gf pos:Nat),pos<=s.size->s.size<=pos+gf →
  idxFuncFrom lQ true s gf pos=if (s.data.toList.drop pos).all iP=true then -1 else((pos+((s.data.toList.drop pos).takeWhile iP).length:Nat):Int):=by
 intro gf
 have hz:s.size=s.data.toList.length:=Lib.size_eq s
 induction gf with
 | zero =>
  intro pos h1 h2
  rw[List.drop_eq_nil_of_le zo]
  rfl
 | succ gf ih =>
  intro pos h1 h2
  by_cases hlt:pos<s.size
  ·have hd:s.data.toList.drop pos=s.data.toList[pos]'zo::s.data.toList.drop (pos+1):=List.drop_eq_getElem_cons zo
   have hb:s.data.toList.getD pos 0=s.data.toList[pos]'zo:=by rw[List.getD_eq_getElem?_getD,List.getElem?_eq_getElem zo];rfl
   have Ly:=decode_N s pos;rw[hb]at Ly;rw[hd];generalize s.data.toList[pos]'zo=b at Ly ⊢;unfold idxFuncFrom;rw[if_pos hlt];rw[List.all_cons,List.takeWhile_cons]
   rcases Nat.lt_or_ge b.toNat 128 with h | h
   ·rw[decodeN_ascii _ _ _ _ _ h]at Ly;rw[Ly];show(if lQ b.toNat=true then _ else idxFuncFrom lQ true s gf (pos+1))=_;rw[xK,ih (pos+1) zo zo]
    cases hk:iP b with
    | false=>simp
    | true =>
     rw[if_neg zs,Bool.true_and,if_pos rfl]
     split
     ·rfl
     ·rw[List.length_cons];omega
   ·have hh:=decode_high (s.data.toList.length - pos) b.toNat (s.data.toList.getD (pos+1) 0).toNat (s.data.toList.getD (pos+2) 0).toNat (s.data.toList.getD (pos+3) 0).toNat h;rw[← Ly]at hh
    have hi:lQ (Utf8.decode s pos).1=true:=by unfold lQ;simp;omega
    rw[if_pos hi]
    have hk:iP b=false:=by
     have:=xK b
     have h2:lQ b.toNat=true:=by unfold lQ;simp;omega
     rw[h2]at this;simpa using this
    rw[hk];simp
  ·rw[List.drop_eq_nil_of_le zo,idxFuncFrom_end _ _ _ _ _ hlt];rfl
theorem Fe(s:ByteArray):idxFunc lQ true s=if s.data.toList.all iP=true then -1 else(((s.data.toList.takeWhile iP).length:Nat):Int):=by
 have:=Q8 s s.size 0 zo zo;rw[List.drop_zero,Nat.zero_add]at this;exact this
theorem Lz{s:ByteArray}(h:s.data.toList.all iP=true):idxFunc lQ true s=-1:=by rw[Fe,if_pos h]
theorem Oo{s:ByteArray}(h:s.data.toList.all iP=false):idxFunc lQ true s=(((s.data.toList.takeWhile iP).length:Nat):Int):=by rw[Fe,if_neg (by simp[h])]
end Go.cC
namespace Go.Proofs.YtbhnbcadgmagpaaGreatDoor
open Go.ChangeShapes Go.WideShapes Go.ChangeAt Go.RowKit Go.aN Go.Shelf Go.Lib
namespace Tx
open cC (Line iP lQ cM eM aW lex sV mj top)
open aV (fh gV)
theorem Yk:Tryz.prog.globalNamed "strings.asciiSpace" = some 4:=zk
structure Env(w:World):Prop where
 max:∃m,w.cell? ⟨3,0,none⟩=some (.int .i64 m)
 dr:TabIs Tryz.prog w "strings.asciiSpace" .u8 asciiSpaceTab
theorem oN{P:Program}{w:World}{n:String}{g:Nat}{cs:Array Value}(hg:P.globalNamed n=some g)(h:w.var? P n=some cs):g<w.heap.size:=by
 unfold World.var? at h;simp only[hg,Option.bind_some]at h
 rcases Nat.lt_or_ge g w.heap.size with h' | h'
 ·exact h'
 ·rw[Array.getElem?_eq_none h']at h;simp at h
theorem ir{P:Program}{w w':World}{n:String}{g:Nat}{cs:Array Value}(hg:P.globalNamed n=some g)(h:w.var? P n=some cs)(hb:Below w.heap.size w w'):w'.var? P n=some cs:=by
 have hlt:=oN hg h;unfold World.var? at *;simp only[hg,Option.bind_some]at h ⊢;rw[hb.block g hlt];exact h
theorem Env.below{w w':World}(h:Env w)(hb:Below w.heap.size w w'):Env w':=by
 obtain⟨⟨m,h1⟩,h2⟩:=h;have hlt:=World.block_lt_of_cell? _ _ h1;exact⟨⟨m,(hb.cell hlt).trans h1⟩,ir Yk h2 hb⟩
theorem Env.alloc{w:World}(h:Env w)(o:Obj):Env (w.alloc o):=h.below ((Below.refl _ _).alloc zl o)
theorem Env.drewN{w:World}(h:Env w)(n:Nat):Env (w.drewN n):=⟨h.max,h.dr⟩
theorem below_drewN(w:World)(n:Nat):Below w.heap.size w (w.drewN n):=⟨rfl,rfl,rfl,Nat.le_refl _,λ_ _=>rfl⟩
theorem wj(x:Nat)(hx:x<=1114111)(W:World) :
  Calls Tryz.prog 156 #[.int .i32 (x:Int)] W λe w'=>e = .returned (.bool (lQ x))/\∃n,w'=W.drewN n:=by
 obtain⟨B,hB⟩:∃B,lQ x=B:=⟨_,rfl⟩
 rw[hB]
 unfold lQ at hB
 go_in
 go_wp2_with fail
 all_goals go_ret
 all_goals refine⟨?_,0,rfl⟩
 all_goals rw[← hB]
 all_goals refine congrArg (λb=>Ending.returned (Value.bool b)) ?_
 all_goals (rw[Bool.eq_iff_iff];simp)
 all_goals omega
abbrev sharp:ByteArray:=⟨#[35]⟩
theorem tF(s:ByteArray)(hs:s.size<=4096)(w:World)(he:Env w) :
  Calls Tryz.prog 213 #[.string s,.string sharp] w λe w'=>∃(r:ByteArray) (b:Bool),e = .returned (.tuple #[.string ⟨(cC.ahead s.data.toList).toArray⟩,.string r,.bool b])/\∃k,w'=w.drewN k:=by
 obtain⟨m,hm⟩:=he.max
 have h:=Tryz.strings_Cut s sharp m w zo hm
 have e:sharp.data.toList=[35]:=rfl
 rw[e,cC.ku]at h
 exact h.mono λ_ _ ⟨he,hw⟩=>⟨_,_,he,hw⟩
theorem DB(l:List UInt8)(hs:l.length<=4096)(hv:∀b∈l,b.toNat<128)(w:World)(he:Env w) :
  Calls Tryz.prog 214 #[.string ⟨l.toArray⟩] w λe w'=>∃v,e = .returned v/\Row w' 9 w'.heap.size v (fields l).length ((fields l).map u_)/\Below w.heap.size w w':=by
 have e:(⟨l.toArray⟩:ByteArray).data.toList=l:=zs
 have h:=Tryz.strings_Fields ⟨l.toArray⟩ w (by rw[Lib.size_eq,e];omega) (by rw[e];exact λj b hb=>hv b (List.mem_of_getElem? hb)) he.dr
 rw[e]at h
 refine h.mono λe w' ⟨h1,h2⟩=>⟨_,h1,?_,by rw[h2];exact(Below.refl _ _).alloc zl _⟩
 subst h2
 have hn:=cC.pJ l []
 refine .inr ⟨w.heap.size,_,_,rfl,by simp,heap_alloc_new _ _,?_,Nat.le_refl _,by unfold fields maxLen;omega⟩
 rw[List.length_map]
 show List.take (fields l).length (List.map u_ (fields l))=_
 exact List.take_of_length_le zs
theorem GR(s:ByteArray)(w:World)(he:Env w)(hs:s.size<=4096)(hv:∀b∈s.data.toList,b.toNat<128) :
  Calls Tryz.prog 159 #[.string s] w λe w'=>∃v,e = .returned v/\Row w' 9 w'.heap.size v (cC.dX s.data.toList).length ((cC.dX s.data.toList).map u_)/\Below w.heap.size w w':=by
 have hz:=Lib.size_eq s
 have hl:=cC.wW s.data.toList
 have hW:cC.dX s.data.toList=fields (cC.ahead s.data.toList):=by unfold cC.dX;rw[cC.ku]
 rw[hW]
 have HF:=hid (λn=>DB (cC.ahead s.data.toList) zo (λb hb=>hv b (cC.FL _ b hb)) (w.drewN n) (he.drewN n))
 have HC:=hid (tF s hs w he)
 clear hv he hz hW
 go_in
 go_wp2_with fail
 refine HC.out.mono ?_
 rintro e w1 ⟨r,b,rfl,n,rfl⟩
 go_wp2_with fail
 refine(HF.out n).mono ?_
 rintro e w1 ⟨v,rfl,h1,h2⟩
 go_wp2_with fail
 go_ret
 exact⟨_,rfl,h1,(below_drewN w n).trans h2⟩
theorem xL(s:ByteArray):s.toList=s.data.toList:=ByteArray.toList_eq s
theorem Ff{a b:Int}{c d:Bool}(h:a=b)(h2:c=d):Ending.returned (.tuple #[.int .i64 a,.bool c]) = .returned (.tuple #[.int .i64 b,.bool d]):=by rw[h,h2]
theorem vb{l:List UInt8}(h:sV l=false):Ending.returned (.tuple #[.int .i64 0,.bool false]) = .returned (.tuple #[.int .i64 (mj l:Int),.bool (sV l)]) :=
 Ff (by rw[cC.Ew h];rfl) h.symm
theorem cW(s:ByteArray)(w:World)(hs:s.size<=maxLen) :
  Calls Tryz.prog 268 #[.string s] w λe w'=>e = .returned (.tuple #[.int .i64 (mj s.data.toList:Int),.bool (sV s.data.toList)])/\w'=w:=by
 unfold maxLen at hs
 have hz:=hid (Lib.size_eq s)
 by_cases h0:s.size=0
 ·have hl:s.data.toList=[]:=List.eq_nil_of_length_eq_zero (by rw[← hz.out];exact h0)
  have ht:s.toList=[]:=by rw[xL,hl]
  have HL:=hid hl;clear hl hz h0;go_in;go_wp2_with fail;go_ret2;exact⟨by rw[HL.out];exact vb cC.Nt,rfl⟩
 ·have hE:s.toList.isEmpty=false:=by
   rw[xL]
   cases hd:s.data.toList with
   | nil=>rw[hz.out,hd]at h0;exact absurd rfl h0
   | cons=>rfl
  have hT : ¬s.toList=[]:=by rw[← List.isEmpty_iff,hE];simp
  have HZ:Hid (¬(1<s.size/\s.data.toList[0]? = some 48)->sV s.data.toList=sV s.data.toList):=λ_=>rfl
  have UK:∀h:0<s.size,(s[0].toNat=48↔s.data.toList[0]? = some 48):=λh=>by
   rw[data_getElem? s 0 h,Option.some.injEq];exact⟨λe=>UInt8.toNat_inj.1 e,λe=>by rw[e];rfl⟩
  by_cases h2:1<s.size/\s.data.toList[0]? = some 48
  ·obtain⟨h1,h48⟩:=h2;have hp:0<s.size:=zo;have hc:=(UK hp).2 h48;have hno:=hid (cC.Ns (by rw[← hz.out];exact h1) h48)
   have hb:((s[0].toNat:Int)==48)=true:=by rw[beq_iff_eq];omega
   clear UK HZ h48 hc;go_in;go_wp2_with fail;go_ret2;exact⟨vb hno.out,rfl⟩
  ·have h48:Hid (1<s.data.toList.length->s.data.toList[0]? ≠ some 48):=λh1 V0=>h2 ⟨by rw[hz.out];exact h1,V0⟩
   have hb:∀h:0<s.size,1<s.size->((s[0].toNat:Int)==48)=false:=λh h1=>by
    rw[beq_eq_false_iff_ne];intro e;exact h2 ⟨h1,(UK h).1 zo⟩
   clear UK HZ h2;by_cases h1:1<s.size
   all_goals try have aZ:=hb zo h1
   all_goals
    clear hb
    go_in
    go_wp2_with fail
    go_loop [4,21] (λn i=>∃k x:Nat,k<=s.size/\i = .int .i64 (k:Int)/\n = .int .i64 (x:Int)/\x<=4611686018427387904/\Hid (x=fh 0 (s.data.toList.take k))/\Hid ((s.data.toList.take k).all gV=true)) (λ_ i=>s.size - (RowKit.intOf i).toNat)
    case atStart=>exact⟨0,0,by omega,rfl,rfl,by omega,rfl,rfl⟩
    case round =>
     obtain⟨k,x,hk,rfl,rfl,ZM,hx,hd⟩:=hrel;by_cases hlt:k<s.size
     ·have Tv:=hid (data_getElem? s k hlt);have hby:=s[k].toNat_lt;have HV:=hid (cC.Nq Tv.out);by_cases hc1:s[k].toNat<48
      ·have HN:=hid (cC.Ao Tv.out zo);go_wp2_with fail;go_ret2;exact⟨vb HN.out,rfl⟩
      ·by_cases hc2:57<s[k].toNat
       ·have HN:=hid (cC.Ao Tv.out zo);go_wp2_with fail;go_ret2;exact⟨vb HN.out,rfl⟩
       ·have HD:=hid (cC.Qs Tv.out hd.out ⟨by omega,by omega⟩);obtain⟨d,hdd⟩:∃d:Nat,s[k].toNat=48+d:=⟨s[k].toNat - 48,by omega⟩;by_cases hov:4611686018427387904<10*x+d
        ·have HN:=hid (cC.Nr (l:=s.data.toList) (k:=k+1) (by rw[HV.out,← hx.out,hdd];unfold top;omega));go_wp2_with fail;go_ret2;exact⟨vb HN.out,rfl⟩
        ·have Kw:Hid (10*x+d=fh 0 (s.data.toList.take (k+1))):=by show _=_;rw[HV.out,← hx.out,hdd];omega
         clear HV Tv;go_wp2_with fail;go_round
         case rel=>exact⟨k+1,10*x+d,by omega,by go_num,by go_num,by omega,Kw,HD⟩
         case measure=>simp[RowKit.intOf];omega
     ·obtain rfl:k=s.size:=zo;have ha:s.data.toList.take s.size=s.data.toList:=List.take_of_length_le (by rw[← hz.out];exact Nat.le_refl _);have hy:=hid (cC.CS (l:=s.data.toList) (by rw[← hz.out];omega) (by rw[← ha];exact hd.out) h48.out (by rw[← ha,← hx.out];exact ZM))
      have zm:Hid (mj s.data.toList=x):=by show _=_;rw[cC.pN hy.out,hx.out,ha]
      clear ha;go_wp2_with fail;go_ret2;exact⟨Ff (by rw[zm.out]) hy.out.symm,rfl⟩
end Tx
namespace Tx
open cC (Line iP lQ cM eM aW lex sV mj top emit dA dX)
theorem G3:(Tryz.prog.info? 177).map (λi=>(i.zero,i.size,i.bytes))=some (some (.agg #[.int .i64 0,.slice none 0 0]),2,32):=zk
theorem B7{P:Program}{t:TypeId}{z:Option Value}{a b:Nat}(h:(P.info? t).map (λi=>(i.zero,i.size,i.bytes))=some (z,a,b)):∃i,P.info? t=some i/\i.zero=z/\i.size=a/\i.bytes=b:=by
 cases hi:P.info? t with
 | none=>rw[hi]at h;cases h
 | some i=>rw[hi]at h;simp at h;exact⟨i,rfl,h.1,h.2.1,h.2.2⟩
theorem G4{w w':World}{B b T s n:Nat}{v:Value}{xs ys:List Value}{ls:List Line}(hL:py w B xs ls)(h:w.ownsRow b T s v n ys)(hne:9≠T)(hg:w.grownBy w' v.ownBlock):py w' B xs ls :=
 hL.keep λg cur _ hc=>hg.block g (Array.getElem?_eq_some_iff.1 hc).1 λe=>by
  rcases h.2 with⟨rfl,_⟩ | ⟨g',cap',ZO,rfl,_,I0,_⟩
  ·simp[Value.ownBlock]at e
  ·simp only[Value.ownBlock,Option.some.injEq]at e;subst e;rw[hc]at I0;injection I0 with e;injection e with _ e _;exact hne e
theorem Row.one{w:World}{T B n:Nat}{v:Value}{xs:List Value}(h:Row w T B v n xs):v.oneCell'=true:=by
 obtain⟨A,c,rfl⟩:=h.len;rfl
theorem G7(w:World)(x y:Value)(t:TypeId):∀j u,[x,y][j]? = some u->(w.alloc (.cells #[x,y] t)).cell? ((⟨w.heap.size,0,none⟩:Addr).add j)=some u:=by
 intro j u hj
 match j,hj with
 | 0,hj=>simp at hj;subst hj;simp[Addr.add]
 | 1,hj=>simp at hj;subst hj;simp[Addr.add]
 | (j+2),hj=>simp at hj
theorem oQ{w W0:World}{ops:Array Oper}{rest:List Oper}{o:Oper}{a:Act}{Q:Exit->Act->World->Prop}(hgd:o.guard=none)(s x:Operand)
  (ho:o.op = .call { callee:=.builtin .append,args:=#[s,x],argTypes:=#[172,172] })
  (v:Value) (xs:List Value) (ls:List Line) (hs:a.eval s=v) (hown:w.ownsRow W0.heap.size 177 2 v ls.length xs) (hL:py w w.heap.size xs ls) (hbel:Below W0.heap.size W0 w)
  (n:Nat) (N:Int) (hN:N=(n:Int)) (b:Value) (ws:List (List UInt8)) (hb:Row w 9 w.heap.size b ws.length (ws.map u_))
  (hx:a.eval x = .slice (some ⟨w.heap.size,0,none⟩) 1 1) (hlen:ls.length<=100000)
  (h:∀v' w' xs',Hid (w'.ownsRow W0.heap.size 177 2 v' (ls++[(n,ws)]).length xs')->Hid (py w' w'.heap.size xs' (ls++[(n,ws)]))->Hid (Below W0.heap.size W0 w')->wpList Tryz.prog ops Q rest (a.put o.dst v') w') :
  wpList Tryz.prog ops Q (o::rest) a (w.alloc (.cells #[.int .i64 N,b] 177)):=by
 subst hN
 obtain⟨i,hi,hz0,hz1,jc⟩:=B7 G3
 have xQ:=hown.alloc (.cells #[.int .i64 (n:Int),b] 177)
 have aK:Below W0.heap.size W0 (w.alloc (.cells #[.int .i64 (n:Int),b] 177)):=hbel.alloc hbel.size _
 have V4:py (w.alloc (.cells #[.int .i64 (n:Int),b] 177)) w.heap.size (xs++[.int .i64 (n:Int),b]) (ls++[(n,ws)]) :=
  (py.snoc hb hL).below ((Below.refl _ _).alloc zl _) zl
 refine wpList_append_own (P:=Tryz.prog) _ hgd s x 172 ho W0.heap.size 177 i (.agg #[.int .i64 0,.slice none 0 0]) 2 32 Tryz.underlying172 hi hz0 hz1 jc rfl zd v ls.length xs hs xQ
  ⟨w.heap.size,0,none⟩ 1 1 [.int .i64 (n:Int),b] hx rfl (G7 _ _ _ _) (by intro u hu;simp at hu;rcases hu with rfl | rfl;rfl;exact hb.one) (by unfold maxLen;omega) zo aK.size ?_
 intro v' w' h1 h2 _
 refine h v' w' (xs++[.int .i64 (n:Int),b]) (by rw[List.length_append];exact h1) ?_ (aK.grown h2 aK.size λk hk=>(xQ.lt k hk).1)
 exact(G4 V4 xQ zd h2).mono (by have:=h2.size;simp at this;omega)
theorem rQ(s:ByteArray)(w:World) :
  Calls Tryz.prog 155 #[.string s,.func (.func 156) #[] #[]] w λe w'=>e = .returned (.int .i64 (idxFunc lQ true s))/\Below w.heap.size w w' :=
 Tryz.strings_IndexFunc_runes 156 #[] (enters_of Tryz.func156 zk rfl) lQ s w λW x hx hb=>wj x hx W
abbrev nl:ByteArray:=⟨#[10]⟩
def upto(s:ByteArray)(k:Nat):ByteArray:=s.extract 0 k
theorem G8(s:ByteArray)(k:Nat):(upto s k).data.toList=s.data.toList.take k:=extract_from_zero s k
theorem G9(s:ByteArray)(w:World) :
  Calls Tryz.prog 157 #[.string s,.string nl] w λe w'=>e = .returned (.int .i64 ((s.data.toList.count 10:Nat):Int))/\w'=w:=Tryz.strings_Count_one s 10 w
theorem DR(c:UInt8):∀(l:List UInt8),∀p∈aV.pieces c l,∀b∈p,b∈l:=by
 intro l
 induction l with
 | nil=>intro p hp b hb;simp[aV.pieces]at hp;subst hp;cases hb
 | cons d l ih =>
  intro p hp b hb
  unfold aV.pieces at hp
  split at hp
  ·rcases List.mem_cons.1 hp with rfl | hp
   ·cases hb
   ·simp[ih p hp b hb]
  ·split at hp
   ·rename_i q qs hq
    rcases List.mem_cons.1 hp with rfl | hp
    ·rcases List.mem_cons.1 hb with rfl | hb
     ·simp
     ·simp[ih q (by rw[hq];simp) b hb]
    ·simp[ih p (by rw[hq];simp[hp]) b hb]
   ·rename_i hq;exact absurd hq (aV.kr c l)
theorem Ox{b:UInt8}(h:iP b=true):b.toNat<128:=by
 unfold iP at h
 rcases Bool.or_eq_true _ _▸h with h | h
 ·rw[beq_iff_eq]at h;subst h;decide
 ·rw[Bool.and_eq_true,decide_eq_true_iff,decide_eq_true_iff]at h;omega
theorem G_(s:ByteArray)(hs:s.size<=4096)(W:World)(he:Env W) :
  Calls Tryz.prog 158 #[.string s,.string nl] W λe w'=>∃ps:List ByteArray,ps.map (·.data.toList)=aV.pieces 10 s.data.toList/\e = .returned (.slice (some ⟨W.heap.size,0,none⟩) ps.length ps.length) ∧
   (∀(k:Nat) (p:ByteArray),ps[k]? = some p->w'.cell? ⟨W.heap.size,k,none⟩=some (.string p))/\Below W.heap.size W w'/\W.heap.size<w'.heap.size:=by
 obtain⟨m,hm⟩:=he.max
 refine(Tryz.strings_Split s nl m W zo hm zd).mono ?_
 rintro e w' ⟨rfl,rfl⟩
 have hl:(splitB nl 0 (countB s nl) s).length=countB s nl+1:=by
  have h1:=aV.oe s nl 10 rfl;rw[h1,← aV.j0 s nl 10 rfl,List.length_map]
 refine⟨splitB nl 0 (countB s nl) s,aV.j0 s nl 10 rfl,by rw[hl],λk p hk=>?_,(Below.refl _ _).alloc zl _,by simp⟩
 rw[cell_of_row _ _ _ _ _ _ (heap_alloc_new W _)]
 simp[hk]
def V5(l:List UInt8)(W:World)(e:Ending)(w':World):Prop:=∃v,e = .returned (.tuple #[v,.int .i64 (eM l:Int),.int .i64 (cM l:Int)])/\lZ w' v (aW l)/\Below W.heap.size W w'
theorem LG{l:List UInt8}{W w':World}{a b:Int}(h:aW l=[])(ha:a=(eM l:Int))(hb:b=(cM l:Int))(hw:Below W.heap.size W w'):V5 l W (.returned (.tuple #[.slice none 0 0,.int .i64 a,.int .i64 b])) w' :=
 ⟨.slice none 0 0,by rw[ha,hb],by rw[h];exact lZ.nil w',hw⟩
theorem G'(s:ByteArray)(w:World)(hs:s.size<=maxLen)(he:Env w) :
  Calls Tryz.prog 112 #[.string s] w (V5 s.data.toList w):=by
 unfold maxLen at hs
 have hz:=hid (Lib.size_eq s)
 by_cases ho:4096<s.size
 ·have HO:=hid (cC.tO (l:=s.data.toList) (by rw[← hz.out];exact ho));clear he;go_in;go_wp2_with fail;exact bodyPost_ret (v:=.tuple #[.slice none 0 0,.int .i64 0,.int .i64 2]) (by simp[results,Tryz.results112,go_sem]) rfl (LG HO.out.2.2 (by rw[HO.out.2.1];rfl) (by rw[HO.out.1];rfl) (Below.refl _ _))
 ·have HI:=hid (rQ s w)
  cases hv:s.data.toList.all iP with
  | false =>
   have HO:=hid (cC.wU (l:=s.data.toList) (by rw[← hz.out];omega) hv)
   have HX:=hid (cC.Oo hv)
   have HK:=hid (cC.qP hv)
   have HT:=hid (cC.take_takeWhile s.data.toList)
   clear he hv
   go_in
   go_wp2_with fail
   go_at_call 155
   refine HI.out.mono ?_
   rintro e w1 ⟨rfl,hb⟩
   rw[HX.out]
   obtain⟨k,hk⟩:∃k,(s.data.toList.takeWhile iP).length=k:=⟨_,rfl⟩
   rw[hk]at HK HT ⊢
   have hlt:k<s.size:=by rw[hz.out];exact HK.out
   have VH:∀W,(Instr.slice 9 (.string s) none (some (.int .i64 (k:Int))) none).run Tryz.prog W = .ok (.string (upto s k)) W:=λW=>by
    have:=run_slice_string_h (P:=Tryz.prog) (t:=9) (s:=s) (w:=W) Tryz.underlying9 .i64 (k:Int) zo zo;simpa[upto]using this
   have HC:=hid (λW=>G9 (upto s k) W)
   go_wp2_with fail
   go_at_call 157
   refine(HC.out _).mono ?_
   rintro e w2 ⟨rfl,rfl⟩
   rw[G8,HT.out]
   have hcl:(s.data.toList.takeWhile iP).count 10<=4096:=by
    have h1:(s.data.toList.takeWhile iP).count 10<=(s.data.toList.takeWhile iP).length:=List.count_le_length;omega
   obtain⟨c,hc⟩:∃c,(s.data.toList.takeWhile iP).count 10=c:=⟨_,rfl⟩
   rw[hc]at hcl HO ⊢
   go_wp2_with fail
   exact bodyPost_ret (v:=.tuple #[.slice none 0 0,.int .i64 (1+(c:Int)),.int .i64 3]) (by simp[results,Tryz.results112,go_sem]) rfl (LG HO.out.2.2 (by rw[HO.out.2.1];omega) (by rw[HO.out.1];rfl) hb)
  | true =>
   have HO:=hid (cC.tP (l:=s.data.toList) (by rw[← hz.out];omega) hv)
   have HX:=hid (cC.Lz hv)
   have ZP:=hid (cC.Qr _ hv)
   have QJ:Hid (∀p∈aV.pieces 10 s.data.toList,p.length<=4096/\∀b∈p,b.toNat<128):=λp hp =>
    ⟨by have:=aV.tN 10 s.data.toList p hp;have:=hz.out;omega,λb hb=>Ox (List.all_eq_true.1 hv b (DR 10 _ p hp b hb))⟩
   have V6:Hid ((aV.pieces 10 s.data.toList).length<=4097):=by
    show _<=_;rw[aV.lg];have h1:s.data.toList.count 10<=s.data.toList.length:=List.count_le_length;have:=hz.out;omega
   have HS:=hid (λW h=>G_ s zo W h)
   have HE:=hid he
   clear he hv
   go_in
   go_wp2_with fail
   go_at_call 155
   refine HI.out.mono ?_
   rintro e w0 ⟨rfl,hb0⟩
   rw[HX.out]
   have Yp:=hid (HE.out.below hb0)
   have qV:=hid hb0
   clear hb0
   go_wp2_with fail
   go_at_call 158
   refine(HS.out _ Yp.out).mono ?_
   rintro e w1 ⟨ps,hps,rfl,hcell,aK,hsz⟩
   have HP:=hid hps
   have HC:=hid hcell
   have sX:=hid (Yp.out.below aK)
   have dF:=hid (qV.out.trans (aK.mono qV.out.size))
   have hpl:ps.length<=4097:=by have:=V6.out;rw[← hps,List.length_map]at this;exact this
   clear hps hcell aK
   go_wp2_with fail
   go_loopw [2,24] (λv i wr=>∃(k:Nat) (xs:List Value),k<=ps.length/\i = .int .i64 (k:Int)/\Hid (wr.ownsRow w1.heap.size 177 2 v (dA 1 ((aV.pieces 10 s.data.toList).take k)).length xs) ∧
    Hid (py wr wr.heap.size xs (dA 1 ((aV.pieces 10 s.data.toList).take k)))/\Hid (Below w1.heap.size w1 wr)) (λ_ i _=>ps.length - (RowKit.intOf i).toNat)
   case atStart=>exact⟨0,[],by omega,rfl,World.ownsRow_nil _ _ _ _,trivial,Below.refl _ _⟩
   case round =>
    obtain⟨k,xs,hk,rfl,hown,hL,hb⟩:=hrel;by_cases hlt:k<ps.length
    ·obtain⟨p,hp⟩:∃p,ps[k]? = some p:=⟨_,List.getElem?_eq_getElem hlt⟩
     have hpk:(aV.pieces 10 s.data.toList)[k]? = some p.data.toList:=by rw[← HP.out,List.getElem?_map,hp];rfl
     have HT:=hid (cC.Ai hpk 1);have V7:=QJ.out _ (List.mem_of_getElem? hpk);have hc0:wr.cell? ⟨w0.heap.size,k,none⟩=some (.string p):=(hb.out.cell hsz).trans (HC.out k p hp);have HW:=hid (GR p wr (sX.out.below hb.out) (by rw[Lib.size_eq];exact V7.1) V7.2)
     have PS:(dA 1 ((aV.pieces 10 s.data.toList).take k)).length<=4097:=by
      have:=cC.CM ((aV.pieces 10 s.data.toList).take k) 1;rw[List.length_take]at this;omega
     have Tz:(dX p.data.toList).length<=4097:=by have:=cC.CN p.data.toList;omega
     clear hp hpk V7;go_wp2_with fail;refine HW.out.mono ?_;rintro e w2 ⟨v,rfl,hr,aZ⟩;obtain⟨A,c,rfl⟩:=hr.len;have PT:=bC hown.out aZ;have Yq:=(hL.out.below aZ zl).mono aZ.size;have hbb:=hb.out.trans (aZ.mono hb.out.size);generalize ZQ:dX p.data.toList=ws at hr HT Tz ⊢;have HR:=hid hr;have Sr:=hid PT;have Yr:=hid Yq;have CE:=hid hbb;clear hc0 hr PT Yq hbb ZQ aZ HW
     cases ws with
     | nil =>
      have uS:Hid (dA 1 ((aV.pieces 10 s.data.toList).take (k+1))=dA 1 ((aV.pieces 10 s.data.toList).take k)):=by
       show _=_;rw[HT.out];exact List.append_nil _
      clear HT
      go_wp2_with fail
      go_roundw
      case rel=>exact⟨k+1,xs,by omega,by go_num,by rw[uS.out];exact Sr,by rw[uS.out];exact Yr,CE⟩
      case measure=>simp[RowKit.intOf];omega
     | cons x ws =>
      have uS:Hid (dA 1 ((aV.pieces 10 s.data.toList).take (k+1))=dA 1 ((aV.pieces 10 s.data.toList).take k)++[(1+k,x::ws)]):=by
       show _=_;rw[HT.out];rfl
      clear HT
      have hpos:(0:Int)<((x::ws).length:Nat):=by simp only[List.length_cons];omega
      generalize ZR:(x::ws).length=ln at hpos Tz HR ⊢
      go_wp2_with (at_builtin;refine oQ rfl (.tmp 34) (.tmp 39) rfl _ xs _ rfl Sr.out Yr.out CE.out (1+k) _ zo _ (x::ws) (by rw[ZR];exact HR.out) rfl zo ?_;intro v3 w3 ZT LH ZU eP)
      go_roundw
      case rel=>exact⟨k+1,ZT,by omega,by go_num,by rw[uS.out];exact LH,by rw[uS.out];exact ZU,eP⟩
      case measure=>simp[RowKit.intOf];omega
    ·obtain rfl:k=ps.length:=zo
     have hall:Hid ((aV.pieces 10 s.data.toList).take ps.length=aV.pieces 10 s.data.toList):=by
      show _=_;rw[← HP.out];exact List.take_of_length_le zs
     rw[hall.out]at hown hL
     have PU:Hid (aW s.data.toList=dA 1 (aV.pieces 10 s.data.toList)):=by show _=_;rw[HO.out.2.2,ZP.out]
     clear hall;go_wp2_with fail;refine bodyPost_ret (v:=.tuple #[u2,.int .i64 0,.int .i64 0]) (by simp[results,Tryz.results112,go_sem]) rfl ?_;exact⟨u2,by rw[HO.out.1,HO.out.2.1];rfl,by rw[PU.out];exact⟨xs,Row.oH hown.out,hL.out⟩,dF.out.trans (hb.out.mono dF.out.size)⟩
end Tx
end Go.Proofs.YtbhnbcadgmagpaaGreatDoor
