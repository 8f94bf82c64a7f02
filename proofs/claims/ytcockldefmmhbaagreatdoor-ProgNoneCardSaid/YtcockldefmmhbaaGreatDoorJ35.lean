/- Several texts of this proof in one file, each in its own namespace. -/
import Derived.Test.YtcockldefmmhbaaGreatDoorTxtA
import Derived.Test.YtcockldefmmhbaaGreatDoorTxtF
import Derived.Test.YtcockldefmmhbaaGreatDoorJ1
import Derived.Test.YtcockldefmmhbaaGreatDoorShelf
import Derived.Test.YtcockldefmmhbaaGreatDoorJ30
import Derived.Deep.QuietTactic
import Derived.Lib.ItoaMem
import Derived.Laws.AppendOwn
set_option linter.unusedVariables false
set_option maxRecDepth 100000
set_option linter.unusedSimpArgs false
namespace Go.Proofs.YtcockldefmmhbaaGreatDoor
open Go.ChangeShapes Go.WideShapes Go.ChangeAt Go.RowKit Go.Mtl Go.Shelf Go.Lib
namespace Tx
open TxtM (Line okb invR errOf lineOf linesOf lex okN valN top)
open AdrM (dval isDig)
theorem gSp:Tryz.prog.globalNamed "strings.asciiSpace" = some 4:=by kernel_rfl
structure Env (w:World):Prop where
 max:∃ m,w.cell? ⟨3,0,none⟩=some (.int .i64 m)
 tab:TabIs Tryz.prog w "strings.asciiSpace" .u8 asciiSpaceTab
theorem var_lt {P:Program} {w:World} {n:String} {g:Nat} {cs:Array Value} (hg:P.globalNamed n=some g) (h:w.var? P n=some cs):g < w.heap.size:=by
 unfold World.var? at h
 simp only [hg,Option.bind_some] at h
 rcases Nat.lt_or_ge g w.heap.size with h' | h'
 ·exact h'
 ·rw [Array.getElem?_eq_none h'] at h;simp at h
theorem var_below {P:Program} {w w':World} {n:String} {g:Nat} {cs:Array Value} (hg:P.globalNamed n=some g) (h:w.var? P n=some cs) (hb:Below w.heap.size w w'):w'.var? P n=some cs:=by
 have hlt:=var_lt hg h
 unfold World.var? at *
 simp only [hg,Option.bind_some] at h ⊢
 rw [hb.block g hlt]
 exact h
theorem Env.below {w w':World} (h:Env w) (hb:Below w.heap.size w w'):Env w':=by
 obtain ⟨⟨m,h1⟩,h2⟩:=h
 have hlt:=World.block_lt_of_cell? _ _ h1
 exact ⟨⟨m,(hb.cell hlt).trans h1⟩,var_below gSp h2 hb⟩
theorem Env.alloc {w:World} (h:Env w) (o:Obj):Env (w.alloc o):=h.below ((Below.refl _ _).alloc (Nat.le_refl _) o)
theorem Env.drewN {w:World} (h:Env w) (n:Nat):Env (w.drewN n):=⟨h.max,h.tab⟩
theorem below_drewN (w:World) (n:Nat):Below w.heap.size w (w.drewN n):=⟨rfl,rfl,rfl,Nat.le_refl _,fun _ _=>rfl⟩
set_option maxRecDepth 100000 in
theorem isInvalid_any (x:Nat) (hx:x<=1114111) (W:World) :
  Calls Tryz.prog 156 #[.int .i32 (x:Int)] W fun e w'=>e = .returned (.bool (invR x))/\∃ n,w'=W.drewN n:=by
 obtain ⟨B,hB⟩:∃ B,invR x=B:=⟨_,rfl⟩
 rw [hB]
 unfold invR at hB
 go_enter Tryz.func156,Tryz.ntmps156
 go_wp2_with fail
 all_goals go_ret
 all_goals refine ⟨?_,0,rfl⟩
 all_goals rw [← hB]
 all_goals refine congrArg (fun b=>Ending.returned (Value.bool b)) ?_
 all_goals (rw [Bool.eq_iff_iff];simp)
 all_goals omega
abbrev sharp:ByteArray:=⟨#[35]⟩
theorem cut_any (s:ByteArray) (hs:s.size<=4096) (w:World) (he:Env w) :
  Calls Tryz.prog 213 #[.string s,.string sharp] w fun e w'=>∃ (r:ByteArray) (b:Bool),e = .returned (.tuple #[.string ⟨(TxtM.ahead s.data.toList).toArray⟩,.string r,.bool b])/\∃ k,w'=w.drewN k:=by
 obtain ⟨m,hm⟩:=he.max
 have h:=Tryz.strings_Cut s sharp m w (by omega) hm
 have e:sharp.data.toList=[35]:=rfl
 rw [e,TxtM.ahead_cut] at h
 exact h.mono fun _ _ ⟨he,hw⟩=>⟨_,_,he,hw⟩
theorem fields_any (l:List UInt8) (hs:l.length<=4096) (hv:∀ b ∈ l,b.toNat < 128) (w:World) (he:Env w) :
  Calls Tryz.prog 214 #[.string ⟨l.toArray⟩] w fun e w'=>∃ v,e = .returned v/\Row w' 9 w'.heap.size v (fields l).length ((fields l).map strV)/\Below w.heap.size w w':=by
 have e:(⟨l.toArray⟩:ByteArray).data.toList=l:=by simp
 have h:=Tryz.strings_Fields ⟨l.toArray⟩ w (by rw [Lib.size_eq,e];omega) (by rw [e];exact fun j b hb=>hv b (List.mem_of_getElem? hb)) he.tab
 rw [e] at h
 refine h.mono fun e w' ⟨h1,h2⟩=>⟨_,h1,?_,by rw [h2];exact (Below.refl _ _).alloc (Nat.le_refl _) _⟩
 subst h2
 have hn:=TxtM.fieldsGo_len l []
 refine .inr ⟨w.heap.size,_,_,rfl,by simp,heap_alloc_new _ _,?_,Nat.le_refl _,by unfold fields maxLen;omega⟩
 rw [List.length_map]
 show List.take (fields l).length (List.map strV (fields l))=_
 exact List.take_of_length_le (by simp)
set_option maxRecDepth 100000 in
theorem words_any (s:ByteArray) (w:World) (he:Env w) (hs:s.size<=4096) (hv:∀ b ∈ s.data.toList,b.toNat < 128) :
  Calls Tryz.prog 159 #[.string s] w fun e w'=>∃ v,e = .returned v/\Row w' 9 w'.heap.size v (TxtM.wordsL s.data.toList).length ((TxtM.wordsL s.data.toList).map strV)/\Below w.heap.size w w':=by
 have hz:=Lib.size_eq s
 have hl:=TxtM.ahead_len s.data.toList
 have hW:TxtM.wordsL s.data.toList=fields (TxtM.ahead s.data.toList):=by unfold TxtM.wordsL;rw [TxtM.ahead_cut]
 rw [hW]
 have HF:=Lib.hid (fun n=>fields_any (TxtM.ahead s.data.toList) (by omega) (fun b hb=>hv b (TxtM.ahead_sub _ b hb)) (w.drewN n) (he.drewN n))
 have HC:=Lib.hid (cut_any s hs w he)
 clear hv he hz hW
 go_enter Tryz.func159,Tryz.ntmps159
 go_wp2_with fail
 go_at_call 213
 refine HC.out.mono ?_
 rintro e w1 ⟨r,b,rfl,n,rfl⟩
 go_wp2_with fail
 go_at_call 214
 refine (HF.out n).mono ?_
 rintro e w1 ⟨v,rfl,h1,h2⟩
 go_wp2_with fail
 go_ret
 exact ⟨_,rfl,h1,(below_drewN w n).trans h2⟩
theorem toList_is (s:ByteArray):s.toList=s.data.toList:=ByteArray.toList_eq s
theorem ret_num {a b:Int} {c d:Bool} (h:a=b) (h2:c=d):Ending.returned (.tuple #[.int .i64 a,.bool c]) = .returned (.tuple #[.int .i64 b,.bool d]):=by rw [h,h2]
theorem ret_no {l:List UInt8} (h:okN l=false):Ending.returned (.tuple #[.int .i64 0,.bool false]) = .returned (.tuple #[.int .i64 (valN l:Int),.bool (okN l)]) :=
 ret_num (by rw [TxtM.valN_no h];rfl) h.symm
set_option maxRecDepth 100000 in
set_option maxHeartbeats 1000000 in
theorem number_any (s:ByteArray) (w:World) (hs:s.size<=maxLen) :
  Calls Tryz.prog 268 #[.string s] w fun e w'=>e = .returned (.tuple #[.int .i64 (valN s.data.toList:Int),.bool (okN s.data.toList)])/\w'=w:=by
 unfold maxLen at hs
 have hz:=Lib.hid (Lib.size_eq s)
 by_cases h0:s.size=0
 ·have hl:s.data.toList=[]:=List.eq_nil_of_length_eq_zero (by rw [← hz.out];exact h0)
  have ht:s.toList=[]:=by rw [toList_is,hl]
  have HL:=Lib.hid hl
  clear hl hz h0
  go_enter Tryz.func268,Tryz.ntmps268
  go_wp2_with fail
  go_ret2
  exact ⟨by rw [HL.out];exact ret_no TxtM.no_none,rfl⟩
 ·have hE:s.toList.isEmpty=false:=by
   rw [toList_is]
   cases hd:s.data.toList with
   | nil=>rw [hz.out,hd] at h0;exact absurd rfl h0
   | cons=>rfl
  have hT : ¬ s.toList=[]:=by rw [← List.isEmpty_iff,hE];simp
  have HZ:Hid (¬ (1 < s.size/\s.data.toList[0]? = some 48)->okN s.data.toList=okN s.data.toList):=fun _=>rfl
  have H48:∀ h:0 < s.size,(s[0].toNat=48 ↔ s.data.toList[0]? = some 48):=fun h=>by
   rw [data_getElem? s 0 h,Option.some.injEq]
   exact ⟨fun e=>UInt8.toNat_inj.1 e,fun e=>by rw [e];rfl⟩
  by_cases h2:1 < s.size/\s.data.toList[0]? = some 48
  ·obtain ⟨h1,h48⟩:=h2
   have hp:0 < s.size:=by omega
   have hc:=(H48 hp).2 h48
   have hno:=Lib.hid (TxtM.no_zero (by rw [← hz.out];exact h1) h48)
   have hb:((s[0].toNat:Int) == 48)=true:=by rw [beq_iff_eq];omega
   clear H48 HZ h48 hc
   go_enter Tryz.func268,Tryz.ntmps268
   go_wp2_with fail
   go_ret2
   exact ⟨ret_no hno.out,rfl⟩
  ·have h48:Hid (1 < s.data.toList.length->s.data.toList[0]? ≠ some 48):=fun h1 h2'=>h2 ⟨by rw [hz.out];exact h1,h2'⟩
   have hb:∀ h:0 < s.size,1 < s.size->((s[0].toNat:Int) == 48)=false:=fun h h1=>by
    rw [beq_eq_false_iff_ne]
    intro e
    exact h2 ⟨h1,(H48 h).1 (by omega)⟩
   clear H48 HZ h2
   by_cases h1:1 < s.size
   all_goals try have hb2:=hb (by omega) h1
   all_goals
    clear hb
    go_enter Tryz.func268,Tryz.ntmps268
    go_wp2_with fail
    go_loop [4,21] (fun n i=>∃ k x:Nat,k<=s.size/\i = .int .i64 (k:Int)/\n = .int .i64 (x:Int)/\x<=4611686018427387904/\Hid (x=dval 0 (s.data.toList.take k))/\Hid ((s.data.toList.take k).all isDig=true)) (fun _ i=>s.size - (RowKit.intOf i).toNat)
    case atStart=>exact ⟨0,0,by omega,rfl,rfl,by omega,rfl,rfl⟩
    case round =>
     obtain ⟨k,x,hk,rfl,rfl,hx4,hx,hd⟩:=hrel
     by_cases hlt:k < s.size
     ·have HAT:=Lib.hid (data_getElem? s k hlt)
      have hby:=s[k].toNat_lt
      have HV:=Lib.hid (TxtM.dval_at HAT.out)
      by_cases hc1:s[k].toNat < 48
      ·have HN:=Lib.hid (TxtM.no_digit HAT.out (by omega))
       go_wp2_with fail
       go_ret2
       exact ⟨ret_no HN.out,rfl⟩
      ·by_cases hc2:57 < s[k].toNat
       ·have HN:=Lib.hid (TxtM.no_digit HAT.out (by omega))
        go_wp2_with fail
        go_ret2
        exact ⟨ret_no HN.out,rfl⟩
       ·have HD:=Lib.hid (TxtM.all_at HAT.out hd.out ⟨by omega,by omega⟩)
        obtain ⟨d,hdd⟩:∃ d:Nat,s[k].toNat=48+d:=⟨s[k].toNat - 48,by omega⟩
        by_cases hov:4611686018427387904 < 10 * x+d
        ·have HN:=Lib.hid (TxtM.no_over (l:=s.data.toList) (k:=k+1) (by rw [HV.out,← hx.out,hdd];unfold top;omega))
         go_wp2_with fail
         go_ret2
         exact ⟨ret_no HN.out,rfl⟩
        ·have HST:Hid (10 * x+d=dval 0 (s.data.toList.take (k+1))):=by show _=_;rw [HV.out,← hx.out,hdd];omega
         clear HV HAT
         go_wp2_with fail
         go_round
         case rel=>exact ⟨k+1,10 * x+d,by omega,by go_num,by go_num,by omega,HST,HD⟩
         case measure=>simp [RowKit.intOf];omega
     ·obtain rfl:k=s.size:=by omega
      have ha:s.data.toList.take s.size=s.data.toList:=List.take_of_length_le (by rw [← hz.out];exact Nat.le_refl _)
      have hy:=Lib.hid (TxtM.yes_number (l:=s.data.toList) (by rw [← hz.out];omega) (by rw [← ha];exact hd.out) h48.out (by rw [← ha,← hx.out];exact hx4))
      have hvv:Hid (valN s.data.toList=x):=by show _=_;rw [TxtM.valN_yes hy.out,hx.out,ha]
      clear ha
      go_wp2_with fail
      go_ret2
      exact ⟨ret_num (by rw [hvv.out]) hy.out.symm,rfl⟩
end Tx
end Go.Proofs.YtcockldefmmhbaaGreatDoor
set_option linter.unusedVariables false
set_option maxRecDepth 100000
set_option linter.unusedSimpArgs false
namespace Go.Proofs.YtcockldefmmhbaaGreatDoor
open Go.ChangeShapes Go.WideShapes Go.ChangeAt Go.RowKit Go.Mtl Go.Shelf Go.Lib
namespace Tx
open TxtM (Line okb invR errOf lineOf linesOf lex okN valN top emit linesP wordsL)
theorem info_line:(Tryz.prog.info? 177).map (fun i=>(i.zero,i.size,i.bytes))=some (some (.agg #[.int .i64 0,.slice none 0 0]),2,32):=by kernel_rfl
theorem parts_of {P:Program} {t:TypeId} {z:Option Value} {a b:Nat} (h:(P.info? t).map (fun i=>(i.zero,i.size,i.bytes))=some (z,a,b)):∃ i,P.info? t=some i/\i.zero=z/\i.size=a/\i.bytes=b:=by
 cases hi:P.info? t with
 | none=>rw [hi] at h;cases h
 | some i=>rw [hi] at h;simp at h;exact ⟨i,rfl,h.1,h.2.1,h.2.2⟩
theorem apart_own {w w':World} {B b T s n:Nat} {v:Value} {xs ys:List Value} {ls:List Line} (hL:Lns w B xs ls) (h:w.ownsRow b T s v n ys) (hne:9≠T) (hg:w.grownBy w' v.ownBlock):Lns w' B xs ls :=
 hL.keep fun g cur _ hc=>hg.block g (Array.getElem?_eq_some_iff.1 hc).1 fun e=>by
  rcases h.2 with ⟨rfl,_⟩ | ⟨g',cap',cur',rfl,_,hg',_⟩
  ·simp [Value.ownBlock] at e
  ·simp only [Value.ownBlock,Option.some.injEq] at e
   subst e
   rw [hc] at hg'
   injection hg' with e
   injection e with _ e _
   exact hne e
theorem Row.one {w:World} {T B n:Nat} {v:Value} {xs:List Value} (h:Row w T B v n xs):v.oneCell'=true:=by
 obtain ⟨A,c,rfl⟩:=h.len;rfl
theorem cells_two (w:World) (x y:Value) (t:TypeId):∀ j u,[x,y][j]? = some u->(w.alloc (.cells #[x,y] t)).cell? ((⟨w.heap.size,0,none⟩:Addr).add j)=some u:=by
 intro j u hj
 match j,hj with
 | 0,hj=>simp at hj;subst hj;simp [Addr.add]
 | 1,hj=>simp at hj;subst hj;simp [Addr.add]
 | (j+2),hj=>simp at hj
theorem wpList_append_line {w W0:World} {ops:Array Oper} {rest:List Oper} {o:Oper} {a:Act} {Q:Exit->Act->World->Prop} (hgd:o.guard=none) (s x:Operand)
  (ho:o.op = .call { callee:=.builtin .append,args:=#[s,x],argTypes:=#[172,172] })
  (v:Value) (xs:List Value) (ls:List Line) (hs:a.eval s=v) (hown:w.ownsRow W0.heap.size 177 2 v ls.length xs) (hL:Lns w w.heap.size xs ls) (hbel:Below W0.heap.size W0 w)
  (n:Nat) (N:Int) (hN:N=(n:Int)) (b:Value) (ws:List (List UInt8)) (hb:Row w 9 w.heap.size b ws.length (ws.map strV))
  (hx:a.eval x = .slice (some ⟨w.heap.size,0,none⟩) 1 1) (hlen:ls.length<=100000)
  (h:∀ v' w' xs',Hid (w'.ownsRow W0.heap.size 177 2 v' (ls ++ [(n,ws)]).length xs')->Hid (Lns w' w'.heap.size xs' (ls ++ [(n,ws)]))->Hid (Below W0.heap.size W0 w')->wpList Tryz.prog ops Q rest (a.put o.dst v') w') :
  wpList Tryz.prog ops Q (o :: rest) a (w.alloc (.cells #[.int .i64 N,b] 177)):=by
 subst hN
 obtain ⟨i,hi,hz0,hz1,hz2⟩:=parts_of info_line
 have hown1:=hown.alloc (.cells #[.int .i64 (n:Int),b] 177)
 have hb1:Below W0.heap.size W0 (w.alloc (.cells #[.int .i64 (n:Int),b] 177)):=hbel.alloc hbel.size _
 have hL1:Lns (w.alloc (.cells #[.int .i64 (n:Int),b] 177)) w.heap.size (xs ++ [.int .i64 (n:Int),b]) (ls ++ [(n,ws)]) :=
  (Lns.snoc hb hL).below ((Below.refl _ _).alloc (Nat.le_refl _) _) (Nat.le_refl _)
 refine wpList_append_own (P:=Tryz.prog) _ hgd s x 172 ho W0.heap.size 177 i (.agg #[.int .i64 0,.slice none 0 0]) 2 32 Tryz.underlying172 hi hz0 hz1 hz2 rfl (by decide) v ls.length xs hs hown1
  ⟨w.heap.size,0,none⟩ 1 1 [.int .i64 (n:Int),b] hx rfl (cells_two _ _ _ _) (by intro u hu;simp at hu;rcases hu with rfl | rfl;rfl;exact hb.one) (by unfold maxLen;omega) (by omega) hb1.size ?_
 intro v' w' h1 h2 _
 refine h v' w' (xs ++ [.int .i64 (n:Int),b]) (by rw [List.length_append];exact h1) ?_ (hb1.grown h2 hb1.size fun k hk=>(hown1.lt k hk).1)
 exact (apart_own hL1 hown1 (by decide) h2).mono (by have:=h2.size;simp at this;omega)
theorem index_any (s:ByteArray) (w:World) :
  Calls Tryz.prog 155 #[.string s,.func (.func 156) #[] #[]] w fun e w'=>e = .returned (.int .i64 (idxFunc invR true s))/\Below w.heap.size w w' :=
 Tryz.strings_IndexFunc_runes 156 #[] (enters_of Tryz.func156 (by kernel_rfl) rfl) invR s w fun W x hx hb=>isInvalid_any x hx W
abbrev nl:ByteArray:=⟨#[10]⟩
def upto (s:ByteArray) (k:Nat):ByteArray:=s.extract 0 k
theorem upto_list (s:ByteArray) (k:Nat):(upto s k).data.toList=s.data.toList.take k:=extract_from_zero s k
theorem count_any (s:ByteArray) (w:World) :
  Calls Tryz.prog 157 #[.string s,.string nl] w fun e w'=>e = .returned (.int .i64 ((s.data.toList.count 10:Nat):Int))/\w'=w:=Tryz.strings_Count_one s 10 w
theorem pieces_sub (c:UInt8):∀ (l:List UInt8),∀ p ∈ AdrM.pieces c l,∀ b ∈ p,b ∈ l:=by
 intro l
 induction l with
 | nil=>intro p hp b hb;simp [AdrM.pieces] at hp;subst hp;cases hb
 | cons d l ih =>
  intro p hp b hb
  unfold AdrM.pieces at hp
  split at hp
  ·rcases List.mem_cons.1 hp with rfl | hp
   ·cases hb
   ·simp [ih p hp b hb]
  ·split at hp
   ·rename_i q qs hq
    rcases List.mem_cons.1 hp with rfl | hp
    ·rcases List.mem_cons.1 hb with rfl | hb
     ·simp
     ·simp [ih q (by rw [hq];simp) b hb]
    ·simp [ih p (by rw [hq];simp [hp]) b hb]
   ·rename_i hq;exact absurd hq (AdrM.pieces_ne c l)
theorem okb_low {b:UInt8} (h:okb b=true):b.toNat < 128:=by
 unfold okb at h
 rcases Bool.or_eq_true _ _ ▸ h with h | h
 ·rw [beq_iff_eq] at h;subst h;decide
 ·rw [Bool.and_eq_true,decide_eq_true_iff,decide_eq_true_iff] at h;omega
theorem split_any (s:ByteArray) (hs:s.size<=4096) (W:World) (he:Env W) :
  Calls Tryz.prog 158 #[.string s,.string nl] W fun e w'=>∃ ps:List ByteArray,ps.map (·.data.toList)=AdrM.pieces 10 s.data.toList/\e = .returned (.slice (some ⟨W.heap.size,0,none⟩) ps.length ps.length) ∧
   (∀ (k:Nat) (p:ByteArray),ps[k]? = some p->w'.cell? ⟨W.heap.size,k,none⟩=some (.string p))/\Below W.heap.size W w'/\W.heap.size < w'.heap.size:=by
 obtain ⟨m,hm⟩:=he.max
 refine (Tryz.strings_Split s nl m W (by omega) hm (by decide)).mono ?_
 rintro e w' ⟨rfl,rfl⟩
 have hl:(splitB nl 0 (countB s nl) s).length=countB s nl+1:=by
  have h1:=AdrM.countB_pieces s nl 10 rfl
  rw [h1,← AdrM.splitB_pieces s nl 10 rfl,List.length_map]
 refine ⟨splitB nl 0 (countB s nl) s,AdrM.splitB_pieces s nl 10 rfl,by rw [hl],fun k p hk=>?_,(Below.refl _ _).alloc (Nat.le_refl _) _,by simp⟩
 rw [cell_of_row _ _ _ _ _ _ (heap_alloc_new W _)]
 simp [hk]
def Ans (l:List UInt8) (W:World) (e:Ending) (w':World):Prop:=∃ v,e = .returned (.tuple #[v,.int .i64 (lineOf l:Int),.int .i64 (errOf l:Int)])/\Lines w' v (linesOf l)/\Below W.heap.size W w'
theorem ans_no {l:List UInt8} {W w':World} {a b:Int} (h:linesOf l=[]) (ha:a=(lineOf l:Int)) (hb:b=(errOf l:Int)) (hw:Below W.heap.size W w'):Ans l W (.returned (.tuple #[.slice none 0 0,.int .i64 a,.int .i64 b])) w' :=
 ⟨.slice none 0 0,by rw [ha,hb],by rw [h];exact Lines.nil w',hw⟩
set_option maxRecDepth 100000 in
set_option maxHeartbeats 1000000 in
theorem lines_any (s:ByteArray) (w:World) (hs:s.size<=maxLen) (he:Env w) :
  Calls Tryz.prog 112 #[.string s] w (Ans s.data.toList w):=by
 unfold maxLen at hs
 have hz:=Lib.hid (Lib.size_eq s)
 by_cases ho:4096 < s.size
 ·have HO:=Lib.hid (TxtM.errOf_over (l:=s.data.toList) (by rw [← hz.out];exact ho))
  clear he
  go_enter Tryz.func112,Tryz.ntmps112
  go_wp2_with fail
  exact bodyPost_ret (v:=.tuple #[.slice none 0 0,.int .i64 0,.int .i64 2]) (by simp [results,Tryz.results112,go_sem]) rfl (ans_no HO.out.2.2 (by rw [HO.out.2.1];rfl) (by rw [HO.out.1];rfl) (Below.refl _ _))
 ·have HI:=Lib.hid (index_any s w)
  cases hv:s.data.toList.all okb with
  | false =>
   have HO:=Lib.hid (TxtM.errOf_bad (l:=s.data.toList) (by rw [← hz.out];omega) hv)
   have HX:=Lib.hid (TxtM.idx_bad hv)
   have HK:=Lib.hid (TxtM.len_takeWhile_lt hv)
   have HT:=Lib.hid (TxtM.take_takeWhile s.data.toList)
   clear he hv
   go_enter Tryz.func112,Tryz.ntmps112
   go_wp2_with fail
   go_at_call 155
   refine HI.out.mono ?_
   rintro e w1 ⟨rfl,hb⟩
   rw [HX.out]
   obtain ⟨k,hk⟩:∃ k,(s.data.toList.takeWhile okb).length=k:=⟨_,rfl⟩
   rw [hk] at HK HT ⊢
   have hlt:k < s.size:=by rw [hz.out];exact HK.out
   have hsl:∀ W,(Instr.slice 9 (.string s) none (some (.int .i64 (k:Int))) none).run Tryz.prog W = .ok (.string (upto s k)) W:=fun W=>by
    have:=run_slice_string_h (P:=Tryz.prog) (t:=9) (s:=s) (w:=W) Tryz.underlying9 .i64 (k:Int) (by omega) (by omega)
    simpa [upto] using this
   have HC:=Lib.hid (fun W=>count_any (upto s k) W)
   go_wp2_with fail
   go_at_call 157
   refine (HC.out _).mono ?_
   rintro e w2 ⟨rfl,rfl⟩
   rw [upto_list,HT.out]
   have hcl:(s.data.toList.takeWhile okb).count 10<=4096:=by
    have h1:(s.data.toList.takeWhile okb).count 10<=(s.data.toList.takeWhile okb).length:=List.count_le_length
    omega
   obtain ⟨c,hc⟩:∃ c,(s.data.toList.takeWhile okb).count 10=c:=⟨_,rfl⟩
   rw [hc] at hcl HO ⊢
   go_wp2_with fail
   exact bodyPost_ret (v:=.tuple #[.slice none 0 0,.int .i64 (1+(c:Int)),.int .i64 3]) (by simp [results,Tryz.results112,go_sem]) rfl (ans_no HO.out.2.2 (by rw [HO.out.2.1];omega) (by rw [HO.out.1];rfl) hb)
  | true =>
   have HO:=Lib.hid (TxtM.errOf_ok (l:=s.data.toList) (by rw [← hz.out];omega) hv)
   have HX:=Lib.hid (TxtM.idx_good hv)
   have HLX:=Lib.hid (TxtM.lex_is _ hv)
   have HLN:Hid (∀ p ∈ AdrM.pieces 10 s.data.toList,p.length<=4096/\∀ b ∈ p,b.toNat < 128):=fun p hp =>
    ⟨by have:=AdrM.pieces_len 10 s.data.toList p hp;have:=hz.out;omega,fun b hb=>okb_low (List.all_eq_true.1 hv b (pieces_sub 10 _ p hp b hb))⟩
   have HPL:Hid ((AdrM.pieces 10 s.data.toList).length<=4097):=by
    show _<=_
    rw [AdrM.pieces_count]
    have h1:s.data.toList.count 10<=s.data.toList.length:=List.count_le_length
    have:=hz.out
    omega
   have HS:=Lib.hid (fun W h=>split_any s (by omega) W h)
   have HE:=Lib.hid he
   clear he hv
   go_enter Tryz.func112,Tryz.ntmps112
   go_wp2_with fail
   go_at_call 155
   refine HI.out.mono ?_
   rintro e w0 ⟨rfl,hb0⟩
   rw [HX.out]
   have HE0:=Lib.hid (HE.out.below hb0)
   have HB0:=Lib.hid hb0
   clear hb0
   go_wp2_with fail
   go_at_call 158
   refine (HS.out _ HE0.out).mono ?_
   rintro e w1 ⟨ps,hps,rfl,hcell,hb1,hsz⟩
   have HP:=Lib.hid hps
   have HC:=Lib.hid hcell
   have HE1:=Lib.hid (HE0.out.below hb1)
   have HB1:=Lib.hid (HB0.out.trans (hb1.mono HB0.out.size))
   have hpl:ps.length<=4097:=by have:=HPL.out;rw [← hps,List.length_map] at this;exact this
   clear hps hcell hb1
   go_wp2_with fail
   go_loopw [2,24] (fun v i wr=>∃ (k:Nat) (xs:List Value),k<=ps.length/\i = .int .i64 (k:Int)/\Hid (wr.ownsRow w1.heap.size 177 2 v (linesP 1 ((AdrM.pieces 10 s.data.toList).take k)).length xs) ∧
    Hid (Lns wr wr.heap.size xs (linesP 1 ((AdrM.pieces 10 s.data.toList).take k)))/\Hid (Below w1.heap.size w1 wr)) (fun _ i _=>ps.length - (RowKit.intOf i).toNat)
   case atStart=>exact ⟨0,[],by omega,rfl,World.ownsRow_nil _ _ _ _,trivial,Below.refl _ _⟩
   case round =>
    obtain ⟨k,xs,hk,rfl,hown,hL,hb⟩:=hrel
    by_cases hlt:k < ps.length
    ·obtain ⟨p,hp⟩:∃ p,ps[k]? = some p:=⟨_,List.getElem?_eq_getElem hlt⟩
     have hpk:(AdrM.pieces 10 s.data.toList)[k]? = some p.data.toList:=by rw [← HP.out,List.getElem?_map,hp];rfl
     have HT:=Lib.hid (TxtM.linesP_take hpk 1)
     have hpo:=HLN.out _ (List.mem_of_getElem? hpk)
     have hc0:wr.cell? ⟨w0.heap.size,k,none⟩=some (.string p):=(hb.out.cell hsz).trans (HC.out k p hp)
     have HW:=Lib.hid (words_any p wr (HE1.out.below hb.out) (by rw [Lib.size_eq];exact hpo.1) hpo.2)
     have hll:(linesP 1 ((AdrM.pieces 10 s.data.toList).take k)).length<=4097:=by
      have:=TxtM.linesP_len ((AdrM.pieces 10 s.data.toList).take k) 1
      rw [List.length_take] at this
      omega
     have hwl:(wordsL p.data.toList).length<=4097:=by have:=TxtM.wordsL_len p.data.toList;omega
     clear hp hpk hpo
     go_wp2_with fail
     go_at_call 159
     refine HW.out.mono ?_
     rintro e w2 ⟨v,rfl,hr,hb2⟩
     obtain ⟨A,c,rfl⟩:=hr.len
     have hown2:=own_below hown.out hb2
     have hL2:=(hL.out.below hb2 (Nat.le_refl _)).mono hb2.size
     have hbb:=hb.out.trans (hb2.mono hb.out.size)
     generalize hws:wordsL p.data.toList=ws at hr HT hwl ⊢
     have HR:=Lib.hid hr
     have HOW:=Lib.hid hown2
     have HL2:=Lib.hid hL2
     have HBB:=Lib.hid hbb
     clear hc0 hr hown2 hL2 hbb hws hb2 HW
     cases ws with
     | nil =>
      have HT2:Hid (linesP 1 ((AdrM.pieces 10 s.data.toList).take (k+1))=linesP 1 ((AdrM.pieces 10 s.data.toList).take k)):=by
       show _=_;rw [HT.out];exact List.append_nil _
      clear HT
      go_wp2_with fail
      go_roundw
      case rel=>exact ⟨k+1,xs,by omega,by go_num,by rw [HT2.out];exact HOW,by rw [HT2.out];exact HL2,HBB⟩
      case measure=>simp [RowKit.intOf];omega
     | cons x ws =>
      have HT2:Hid (linesP 1 ((AdrM.pieces 10 s.data.toList).take (k+1))=linesP 1 ((AdrM.pieces 10 s.data.toList).take k) ++ [(1+k,x :: ws)]):=by
       show _=_;rw [HT.out];rfl
      clear HT
      have hpos:(0:Int) < ((x :: ws).length:Nat):=by simp only [List.length_cons];omega
      generalize hln:(x :: ws).length=ln at hpos hwl HR ⊢
      go_wp2_with (at_builtin;refine wpList_append_line rfl (.tmp 34) (.tmp 39) rfl _ xs _ rfl HOW.out HL2.out HBB.out (1+k) _ (by omega) _ (x :: ws) (by rw [hln];exact HR.out) rfl (by omega) ?_;intro v3 w3 xs3 hown3 hL3 hb3)
      go_roundw
      case rel=>exact ⟨k+1,xs3,by omega,by go_num,by rw [HT2.out];exact hown3,by rw [HT2.out];exact hL3,hb3⟩
      case measure=>simp [RowKit.intOf];omega
    ·obtain rfl:k=ps.length:=by omega
     have hall:Hid ((AdrM.pieces 10 s.data.toList).take ps.length=AdrM.pieces 10 s.data.toList):=by
      show _=_
      rw [← HP.out];exact List.take_of_length_le (by simp)
     rw [hall.out] at hown hL
     have HLS:Hid (linesOf s.data.toList=linesP 1 (AdrM.pieces 10 s.data.toList)):=by show _=_;rw [HO.out.2.2,HLX.out]
     clear hall
     go_wp2_with fail
     refine bodyPost_ret (v:=.tuple #[u2,.int .i64 0,.int .i64 0]) (by simp [results,Tryz.results112,go_sem]) rfl ?_
     exact ⟨u2,by rw [HO.out.1,HO.out.2.1];rfl,by rw [HLS.out];exact ⟨xs,Row.of_own hown.out,hL.out⟩,HB1.out.trans (hb.out.mono HB1.out.size)⟩
end Tx
end Go.Proofs.YtcockldefmmhbaaGreatDoor
