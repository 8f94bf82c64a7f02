import Derived.Test.YtbhnbcadgmagpaaGreatDoorBig
import Derived.Test.YtbhnbcadgmagpaaGreatDoorJ1
import Derived.Test.YtbhnbcadgmagpaaGreatDoorRows
set_option linter.unusedVariables false
set_option linter.unusedSimpArgs false
namespace Go.aN
open Go.RowKit
def aJ(bs:List UInt8)(i:Nat):Nat:=(bs.getD i 0).toNat
theorem dB(bs:List UInt8)(i:Nat):aJ bs i<256:=(bs.getD i 0).toNat_lt
theorem JB(bs:List UInt8)(i j:Nat):aJ (bs.drop i) j=aJ bs (i+j):=by simp[aJ,List.getD,List.getElem?_drop]
theorem Aw(bs:List UInt8)(m j:Nat)(h:j<m):aJ (bs.take m) j=aJ bs j:=by simp[aJ,List.getD,h]
structure bI(w:World)(B:Nat)(A:Option Addr)(n:Nat)(bs:List UInt8):Prop where
 len:bs.length=n
 at_:0<n->∃b off,A=some ⟨b,off,none⟩/\b<B/\∀j,j<n->w.cell? ⟨b,off+j,none⟩=some (.int .u8 (aJ bs j:Int))
section
variable {w w':World}{B B' n:Nat}{A:Option Addr}{bs:List UInt8}
theorem bI.empty(w:World)(B:Nat)(A:Option Addr):bI w B A 0 []:=⟨rfl,λh=>absurd h zo⟩
theorem bI.keep(h:bI w B A n bs)(hk:∀p:Addr,p.block<B->w'.cell? p=w.cell? p):bI w' B A n bs :=
 ⟨h.len,λhn=>by
  obtain⟨b,off,e,hb,hc⟩:=h.at_ hn
  exact⟨b,off,e,hb,λj hj=>(hk _ hb).trans (hc j hj)⟩⟩
theorem bI.more(h:bI w B A n bs)(hB:B<=B'):bI w B' A n bs :=
 ⟨h.len,λhn=>by
  obtain⟨b,off,e,hb,hc⟩:=h.at_ hn
  exact⟨b,off,e,by omega,hc⟩⟩
theorem bI.below(h:bI w B A n bs)(hb:Below B w w'):bI w' B A n bs:=h.keep λ_ hp=>hb.cell hp
theorem bI.drewN(h:bI w B A n bs)(k:Nat):bI (w.drewN k) B A n bs:=⟨h.len,h.at_⟩
theorem bI.drew(h:bI w B A n bs):bI w.drew B A n bs:=⟨h.len,h.at_⟩
theorem bI.alloc(h:bI w B A n bs)(hB:B<=w.heap.size)(o:Obj):bI (w.alloc o) B A n bs:=h.keep λp hp=>World.cell?_alloc_lt w o p zo
theorem bI.setCell(h:bI w B A n bs){p:Addr}(hB:B<=p.block)(u:Value):bI (w.setCell p u) B A n bs :=
 h.keep λq hq=>World.cell?_setCell_other w p q u (λe=>by subst e;omega)
theorem bI.cut(h:bI w B A n bs)(i m:Nat)(hm:0<m)(hi:i+m<=n):∃b off,A=some ⟨b,off,none⟩/\bI w B (some ⟨b,off+i,none⟩) m ((bs.drop i).take m):=by
 obtain⟨b,off,e,hb,hc⟩:=h.at_ zo;have hl:=h.len;refine⟨b,off,e,by simp;omega,λ_=>⟨b,off+i,rfl,hb,λj hj=>?_⟩⟩;rw[Nat.add_assoc,hc (i+j) zo];rw[Aw _ _ _ hj,JB]
theorem pR{x:Addr}{len:Nat}{zs:List Int}(hl:len<=zs.length)(hc:∀i,i<zs.length->w.cell? (x.add i)=some (.int .u8 (zs.getD i 0)))
  (hz:∀n∈zs,(Lit.int .u8 n).wf=true):∃bs,bI w w.heap.size (some x) len bs:=by
 refine⟨(zs.take len).map λz=>UInt8.ofNat z.toNat,by simp;omega,λhn=>?_⟩
 obtain⟨b,off,sp⟩:=x
 obtain rfl:sp=none:=by simpa[Addr.add]using World.cell?_spot (hc 0 zo)
 have hb:=World.block_lt_of_cell? _ _ (hc 0 zo)
 refine⟨b,off,rfl,by simpa[Addr.add]using hb,λj hj=>?_⟩
 have h1:=hc j zo
 have h2:=bounds_u8 (hz zs[j] (List.getElem_mem zo))
 have e:(Addr.add ⟨b,off,none⟩ j)=⟨b,off+j,none⟩:=by unfold Addr.add;split <;> simp_all
 rw[← e,h1]
 have hjl:j<zs.length:=zo
 simp[aJ,List.getD,hj,hjl]
 omega
def JC(bs:List UInt8):ByteArray:=⟨bs.toArray⟩
theorem foldl_push(ns:List UInt8):∀s:ByteArray,(ns.map λc=>(c.toNat:Int)).foldl (λr n=>r.push (UInt8.ofNat n.toNat)) s=⟨s.data++ns.toArray⟩:=by
 induction ns with
 | nil=>intro s;simp
 | cons c ns ih =>
  intro s
  rw[List.map_cons,List.foldl_cons,ih]
  simp[ByteArray.push]
theorem Ax{P:Program}(src dst e:TypeId)(hs:P.underlying src=some (.slice e))(he:P.underlying e=some (.int .u8))(hd:P.underlying dst=some .string)
  {c:Nat} (h:bI w B A n bs):(convert src dst (.slice A n c)).run P w = .ok (.string (JC bs)) w:=by
 rw[run_convert_bytes_string w src dst e A n c hs he hd]
 rcases Nat.eq_zero_or_pos n with h0 | h0
 ·subst h0;have:bs=[]:=List.eq_nil_of_length_eq_zero h.len;subst this
  rcases A with _ | a
  ·simp[Conv.bytesToString,Sem.run_pure];rfl
  ·have hl:(loadCells a 0).run P w = .ok (([]:List Int).map (Value.int .u8)).toArray w:=by simp[loadCells,loadCellsFrom,Sem.run_pure]
   rw[run_bytesToString w a 0 c [] hl];rfl
 ·obtain⟨b,off,rfl,_,hc⟩:=h.at_ h0
  have hl:(loadCells ⟨b,off,none⟩ n).run P w = .ok ((bs.map λc=>(c.toNat:Int)).map (Value.int .u8)).toArray w:=by
   have hlen:=h.len;subst hlen
   have:=run_loadCells_list (P:=P) (w:=w) ⟨b,off,none⟩ ((bs.map λc=>(c.toNat:Int)).map (Value.int .u8)) (by
    intro j v hv
    have hj:j<bs.length:=by have:=(List.getElem?_eq_some_iff.1 hv).1;simpa using this
    have e:(Addr.add ⟨b,off,none⟩ j)=⟨b,off+j,none⟩:=by unfold Addr.add;split <;> simp_all
    rw[e,hc j hj]
    rw[← hv]
    simp[aJ,List.getD,hj])
   simpa using this
  rw[run_bytesToString w _ n c _ hl,foldl_push];simp[JC]
end
def fE(bs:List UInt8):List Value:=bs.map λc=>.int .u8 (c.toNat:Int)
theorem iU(bs:List UInt8):(fE bs).length=bs.length:=by simp[fE]
theorem oF(bs:List UInt8)(j:Nat)(h:j<bs.length):(fE bs)[j]? = some (.int .u8 (aJ bs j:Int)):=by simp[fE,aJ,List.getD,h]
theorem Ay(bs:List UInt8)(c:UInt8):fE bs++[.int .u8 (c.toNat:Int)]=fE (bs++[c]):=by simp[fE]
theorem EC(bs:List UInt8)(j:Nat)(c:UInt8):(fE bs).set j (.int .u8 (c.toNat:Int))=fE (bs.set j c):=by simp[fE,List.map_set]
theorem xb(n:Nat):(madeCells (Value.int .u8 0).cells (n*1)).toList=fE (List.replicate n 0):=by
 apply List.ext_getElem?;intro i;by_cases h:i<n
 ·simp[madeCells,fE,Value.cells,h,Nat.mod_one]
 ·simp[madeCells,fE,h]
theorem Nv(bs:List UInt8)(j k:Nat)(c:UInt8)(h:j<bs.length):aJ (bs.set j c) k=if j=k then c.toNat else aJ bs k:=by
 unfold aJ;simp only[List.getD,List.getElem?_set];split
 ·simp
 ·rfl
theorem FV{a b:List UInt8}(hl:a.length=b.length)(h:∀j,j<a.length->aJ a j=aJ b j):a=b:=by
 apply List.ext_getElem hl;intro i h1 h2;have:=h i h1;unfold aJ at this;simp only[List.getD,List.getElem?_eq_getElem h1,List.getElem?_eq_getElem h2,Option.getD_some]at this;exact UInt8.toNat_inj.1 this
theorem lp{w:World}{base e:Nat}{v:Value}{n c:Nat}{A:Option Addr}{bs:List UInt8}(h:w.ownsRow base e 1 v n (fE bs))(hv:v = .slice A n c):bI w w.heap.size A n bs:=by
 subst hv
 have hl:bs.length=n:=by have:=h.1;rw[iU]at this;omega
 refine⟨hl,λhn=>?_⟩;obtain⟨g,cap,hv,_,hlt⟩:=h.form hn
 have hA:A=some ⟨g,0,none⟩:=by injection hv
 subst hA;refine⟨g,0,rfl,hlt,λj hj=>?_⟩
 have e:(Addr.add ⟨g,0,none⟩ j)=⟨g,0+j,none⟩:=by unfold Addr.add;split <;> simp_all
 have:=h.cells (g:=g) rfl j _ (oF bs j zo);rw[← e];exact this
theorem b7{P:Program}(w0:World){ops:Array Oper}{rest:List Oper}{o:Oper}{a:Act}{Q:Exit->Act->World->Prop}(hgd:o.guard=none)(s x:Operand)(t:TypeId)
  (ho:o.op = .call { callee:=.builtin .append,args:=#[s,x],argTypes:=#[t,t] })
  (base:Nat) (e:TypeId) (i:TypeInfo) (ht:P.underlying t=some (.slice e)) (hi:P.info? e=some i) (hz:i.zero=some (.int .u8 0)) (hsize:i.size=1) (hby:i.bytes=1)
  (v:Value) (n:Nat) (xs:List Value) (c:Int) (hs:a.eval s=v) (hown:w0.ownsRow base e 1 v n xs)
  (hx:a.eval x = .slice (some ⟨w0.heap.size,0,none⟩) 1 1) (hn:n<=1073741824) (hbase:base<=w0.heap.size)
  (h:∀v' w',w'.ownsRow base e 1 v' (n+1) (xs++[.int .u8 c])->(w0.alloc (.cells #[.int .u8 c] e)).grownBy w' v.ownBlock->wpList P ops Q rest (a.put o.dst v') w') :
  wpList P ops Q (o::rest) a (w0.alloc (.cells #[.int .u8 c] e)):=by
 refine wpList_append_own _ hgd s x t ho base e i (.int .u8 0) 1 1 ht hi hz hsize hby rfl zo v n xs hs (hown.alloc _) ⟨w0.heap.size,0,none⟩ 1 1 [.int .u8 c] hx rfl ?_ ?_ (by unfold maxLen;omega) zo zt
  (λv' w' h1 h2 _=>h v' w' h1 h2)
 ·intro j u hu
  have hj:j=0:=by have:=(List.getElem?_eq_some_iff.1 hu).1;simpa using this
  subst hj;simp at hu;subst hu;simp[Addr.add]
 ·intro u hu;simp at hu;subst hu;rfl
end Go.aN
namespace Go.aN
open Go.RowKit
def aF(w:World)(g:Nat)(cs:Array Value)(t:TypeId):Prop:=w.heap[g]? = some (.cells cs t (0,0))
section
variable {w w':World}{g:Nat}{cs:Array Value}{t:TypeId}
theorem aF.box(w:World)(cs:Array Value)(t:TypeId):aF (w.alloc (.cells cs t)) w.heap.size cs t:=heap_alloc_new w _
theorem aF.lt(H:aF w g cs t):g<w.heap.size:=by
 rcases Nat.lt_or_ge g w.heap.size with hlt | hge
 ·exact hlt
 ·unfold aF at H;rw[Array.getElem?_eq_none hge]at H;cases H
theorem aF.keep(H:aF w g cs t)(hk:w'.heap[g]? = w.heap[g]?):aF w' g cs t:=hk.trans H
theorem aF.next(H:aF w g cs t)(hb:Below w.heap.size w w'):aF w' g cs t:=H.keep (hb.block g H.lt)
theorem aF.below{B:Nat}(H:aF w g cs t)(hb:Below B w w')(hg:g<B):aF w' g cs t:=H.keep (hb.block g hg)
theorem aF.alloc(H:aF w g cs t)(o:Obj):aF (w.alloc o) g cs t:=H.next ((Below.refl _ _).alloc zl o)
theorem aF.drewN(H:aF w g cs t)(k:Nat):aF (w.drewN k) g cs t:=H
theorem aF.drew(H:aF w g cs t):aF w.drew g cs t:=H
theorem aF.other(H:aF w g cs t)(k i:Nat)(hk:g≠k)(v:Value):aF (w.setCell ⟨k,i,none⟩ v) g cs t:=H.keep (Below.heap_setCell _ _ _ _ hk)
theorem aF.cell(H:aF w g cs t)(i:Nat)(v:Value)(h:cs[i]? = some v):w.cell? ⟨g,i,none⟩=some v:=(cell_of_row w g i _ _ _ H).trans h
theorem aF.frozen(H:aF w g cs t)(i:Nat):w.frozen? ⟨g,i,none⟩=false:=frozen_of_row w g i _ _ H
theorem aF.set(H:aF w g cs t)(i:Nat)(v:Value):aF (w.setCell ⟨g,i,none⟩ v) g (cs.setIfInBounds i v) t:=heap_setCell_same w g i _ _ v H
theorem aF.set'(H:aF w g cs t)(i:Nat)(v:Value){cs':Array Value}(h:cs.setIfInBounds i v=cs'):aF (w.setCell ⟨g,i,none⟩ v) g cs' t:=h▸H.set i v
theorem aF.n5(w:World)(o:Obj)(cs:Array Value)(t:TypeId):aF ((w.alloc o).alloc (.cells cs t)) (w.heap.size+1) cs t:=by
 have:=aF.box (w.alloc o) cs t
 rwa [World.size_alloc]at this
theorem aF.ab2(w:World)(o o2:Obj)(cs:Array Value)(t:TypeId):aF (((w.alloc o).alloc o2).alloc (.cells cs t)) (w.heap.size+2) cs t:=by
 have:=aF.box ((w.alloc o).alloc o2) cs t
 rwa [World.size_alloc,World.size_alloc]at this
theorem _root_.Go.RowKit.Below.lW{B:Nat}{w w':World}(hb:Below B w w')(n:Nat):Below B w (w'.drewN n):=hb.trans ⟨rfl,rfl,rfl,Nat.le_refl _,λ_ _=>rfl⟩
end
end Go.aN
namespace Go.aN
open Go.RowKit
section
variable {w w':World}{B n:Nat}{A:Option Addr}{bs:List UInt8}
theorem bI.take(h:bI w B A n bs)(m:Nat):bI w B A (min n m) (bs.take m):=by
 have hl:=h.len;refine⟨by simp;omega,λhn=>?_⟩;obtain⟨b,off,e,hb,hc⟩:=h.at_ zo;exact⟨b,off,e,hb,λj hj=>by rw[hc j zo,Aw _ _ _ zo]⟩
theorem bI.front(h:bI w B A n bs)(m:Nat)(hm:m<=n):bI w B A m (bs.take m):=by
 have:=h.take m
 rwa [Nat.min_eq_right hm]at this
theorem ED(w:World)(g:Nat)(cs:Array Value)(t:TypeId)(bs:List UInt8)(h:w.heap[g]? = some (.cells cs t (0,0)))(hcs:cs=(fE bs).toArray):bI w w.heap.size (some ⟨g,0,none⟩) bs.length bs:=by
 refine⟨rfl,λhn=>⟨g,0,rfl,?_,λj hj=>?_⟩⟩
 ·rcases Nat.lt_or_ge g w.heap.size with hlt | hge
  ·exact hlt
  ·rw[Array.getElem?_eq_none hge]at h;cases h
 ·rw[cell_of_row w g _ cs t (0,0) h,hcs,Nat.zero_add,List.getElem?_toArray,oF bs j hj]
theorem bC{base e size n:Nat}{v:Value}{xs:List Value}(h:w.ownsRow base e size v n xs)(hb:Below w.heap.size w w'):w'.ownsRow base e size v n xs :=
 h.kept (row:=none) ⟨hb.os,hb.tape,hb.output,hb.size,λj hj _=>hb.block j hj⟩ (by cases hv:v.ownBlock <;> simp)
end
theorem pS{P:Program}{w:World}{ops:Array Oper}{rest:List Oper}{o:Oper}{a:Act}{Q:Exit->Act->World->Prop}(hgd:o.guard=none)(s x:Operand)(t:TypeId)
  (ho:o.op = .call { callee:=.builtin .append,args:=#[s,x],argTypes:=#[t,t] })
  (base:Nat) (e:TypeId) (i:TypeInfo) (ht:P.underlying t=some (.slice e)) (hi:P.info? e=some i) (hz:i.zero=some (.int .u8 0)) (hsize:i.size=1) (hby:i.bytes=1)
  (v:Value) (n:Nat) (xs:List UInt8) (hs:a.eval s=v) (hown:w.ownsRow base e 1 v n (fE xs))
  (B:Nat) (A:Option Addr) (m c:Nat) (ys:List UInt8) (hx:a.eval x = .slice A m c) (hr:bI w B A m ys) (hn:n+m<=1073741824) (hbase:base<=w.heap.size)
  (h:∀A' c' w',w'.ownsRow base e 1 (.slice A' (n+m) c') (n+m) (fE (xs++ys))->w.grownBy w' v.ownBlock->(n+m<=c'/\c'<=9223372036854775807)->wpList P ops Q rest (a.put o.dst (.slice A' (n+m) c')) w') :
  wpList P ops Q (o::rest) a w:=by
 have fin:∀v' w',w'.ownsRow base e 1 v' (n+m) (fE (xs++ys))->w.grownBy w' v.ownBlock->wpList P ops Q rest (a.put o.dst v') w':=by
  intro v' w' h1 h2
  rcases h1.2 with⟨h3,h4⟩ | ⟨g,cap,cur,rfl,_,_,h5,h6,_⟩
  ·subst h3;have:=h none 0 w' (by rw[h4]at h1 ⊢;exact h1) h2 zo;rw[h4]at this;exact this
  ·exact h _ _ w' h1 h2 ⟨h5,by unfold maxLen at h6;omega⟩
 rcases A with _ | ad
 ·have hm:m=0:=by
   rcases Nat.eq_zero_or_pos m with h0 | h0
   ·exact h0
   ·obtain⟨_,_,h1,_⟩:=hr.at_ h0
    cases h1
  subst hm;obtain rfl:ys=[]:=List.eq_nil_of_length_eq_zero hr.len
  have hrun:(Builtin.append_ #[t,t] o.type #[v,.slice none 0 c]).run P w = .ok v w:=by
   rcases hown.2 with⟨rfl,rfl⟩ | ⟨g,cap,cur,rfl,_,_,hnc,_⟩
   ·simp[Builtin.append_,run_underlying ht,sizeOf,typeInfo,hi,Builtin.lenOf,Builtin.firstCells]
   ·simp[Builtin.append_,run_underlying ht,sizeOf,typeInfo,hi,Builtin.lenOf,Builtin.firstCells,hnc,storeCells]
  have Va:=fin v w (by simpa using hown) (World.grownBy.refl w _);refine wpList_plain hgd λK hK=>?_;unfold Oper.wp;simp[execOp,ho,resolve,invoke,builtin,hs,hx,hrun,Result.andThen];exact hK _ _ Va
 ·refine wpList_append_own w hgd s x t ho base e i (.int .u8 0) 1 1 ht hi hz hsize hby rfl zo v n (fE xs) hs hown ad m c (fE ys) hx (by rw[iU,hr.len,Nat.mul_one]) ?_ ?_ (by unfold maxLen;omega) zo hbase
   (λv' w' h1 h2 _=>fin v' w' (by unfold fE at h1 ⊢;rwa [List.map_append]) h2)
  ·intro j u hu
   have hj:j<ys.length:=by have:=(List.getElem?_eq_some_iff.1 hu).1;rwa [iU]at this
   obtain⟨b,off,h1,_,hc⟩:=hr.at_ (by have:=hr.len;omega);injection h1 with h1;subst h1
   have e:(Addr.add ⟨b,off,none⟩ j)=⟨b,off+j,none⟩:=by unfold Addr.add;split <;> simp_all
   rw[e,hc j (by have:=hr.len;omega)];rw[oF ys j hj]at hu;exact hu
  ·intro u hu;unfold fE at hu;obtain⟨c,_,rfl⟩:=List.mem_map.1 hu;rfl
end Go.aN
namespace Go.aN
open Go.RowKit
theorem pT{P:Program}{f:FuncId}{args:Array Value}{w:World}{v:Value}(h:Calls P f args w λe w'=>e = .returned v/\w=w'):Calls P f args w λe w''=>e = .returned v/\w''=w :=
 h.mono λ_ _ ⟨a,b⟩=>⟨a,b.symm⟩
theorem aD{P:Program}{id:Nat}{Q:Exit->Act->World->Prop}{a:Act}{w:World}{l:List Oper}(n:Nat)(hm:P.follows .mixedOrders=true)(hB:Region.lexTailB .any l.toArray n=true)
  (w1:World) (hw:w1=w.drew) (h:wpStill P l.toArray w1 (λa'=>wpList P l.toArray Q (l.drop n) a' w1) (l.take n) a):(Code.region id l.toArray true).wp P Q a w:=by
 subst hw
 exact wp_region_still_tail n hm hB h
section
variable {P:Program}{w:World}{o:Oper}{a:Act}{K:Act->World->Prop}{Q:Exit->Act->World->Prop}
end
def over(l:List UInt8)(i:Nat)(cs:List UInt8):List UInt8:=l.take i++(cs++l.drop (i+cs.length))
theorem JD(l cs:List UInt8)(h:l.length=cs.length):over l 0 cs=cs:=by simp[over,← h]
theorem JE(l:List UInt8)(i:Nat):over l i []=l:=by simp[over]
theorem yq{P:Program}{w:World}(dT sT ty elem:TypeId)(hu:P.underlying dT=some (.slice elem))(hsz:(P.info? elem).map (·.size)=some 1)
  (dp sp:Option Addr) (g off dLen dCap sLen sCap B:Nat) (l cs:List UInt8) (t:TypeId) (hg:w.heap[g]? = some (.cells (fE l).toArray t (0,0))) (hb:bI w B sp sLen cs) (hle:sLen<=dLen) (hfit:off+sLen<=l.length)
  (hpos:0<sLen->dp=some ⟨g,off,none⟩) :
  ∃w',(Builtin.copy_ #[dT,sT] ty #[.slice dp dLen dCap,.slice sp sLen sCap]).run P w = .ok (goInt sLen) w'/\w'.heap[g]? = some (.cells (fE (over l off cs)).toArray t (0,0))/\w.grownBy w' (some g):=by
 have hl:=hb.len
 rcases Nat.eq_zero_or_pos sLen with h0 | h0
 ·have hcs:cs=[]:=List.eq_nil_of_length_eq_zero zo;subst hcs;refine⟨w,?_,by rw[JE];exact hg,World.grownBy.refl w _⟩;rw[run_copy_none (P:=P) w dT sT ty elem dp sp dLen dCap sLen sCap hu hsz (by subst h0;simp),h0];rfl
 ·obtain⟨b,o,rfl,_,hc⟩:=hb.at_ h0;obtain rfl:=hpos h0
  have hrun:=run_copy_row (P:=P) w dT sT ty elem g off dLen dCap ⟨b,o,none⟩ sLen sCap (fE l).toArray t (fE cs) hu hsz hg (by rw[iU,hl];exact(Nat.min_eq_left hle).symm)
   (by
    intro j v hv
    have hj:j<cs.length:=by have:=(List.getElem?_eq_some_iff.1 hv).1;rwa [iU]at this
    have e:(Addr.add ⟨b,o,none⟩ j)=⟨b,o+j,none⟩:=by unfold Addr.add;split <;> simp_all
    rw[e,hc j zo,← hv,oF cs j hj])
   (by simp[iU];omega)
   (by
    intro v hv
    unfold fE at hv
    obtain⟨c,_,rfl⟩:=List.mem_map.1 hv
    rfl)
  have e:(fE l).toArray.toList.take off++fE cs++(fE l).toArray.toList.drop (off+(fE cs).length)=fE (over l off cs):=by simp[over,fE,List.map_take,List.map_drop]
  rw[e,iU,hl]at hrun;exact⟨_,hrun,setRow_heap w g _ _ t _ hg,⟨rfl,rfl,rfl,by simp[World.setRow],λk _ hk=>setRow_other w g k _ (λe=>hk (by simp[e]))⟩⟩
section
variable {P:Program}{w:World}{o:Oper}{a:Act}{K:Act->World->Prop}{Q:Exit->Act->World->Prop}
theorem Az(d s:Operand)(dT sT:TypeId)(ho:o.op = .call { callee:=.builtin .copy,args:=#[d,s],argTypes:=#[dT,sT] })(elem:TypeId)(hu:P.underlying dT=some (.slice elem))(hsz:(P.info? elem).map (·.size)=some 1)
  (dp sp:Option Addr) (g off dLen dCap sLen sCap B:Nat) (hd:a.eval d = .slice dp dLen dCap) (hs:a.eval s = .slice sp sLen sCap)
  (l cs:List UInt8) (t:TypeId) (hg:w.heap[g]? = some (.cells (fE l).toArray t (0,0))) (hb:bI w B sp sLen cs) (hle:sLen<=dLen) (hfit:off+sLen<=l.length)
  (hpos:0<sLen->dp=some ⟨g,off,none⟩)
  (h:∀w',w'.heap[g]? = some (.cells (fE (over l off cs)).toArray t (0,0))->w.grownBy w' (some g)->K (a.put o.dst (goInt sLen)) w'):o.wp P a w K Q:=by
 obtain⟨w',h0,h1,h2⟩:=yq (P:=P) dT sT o.type elem hu hsz dp sp g off dLen dCap sLen sCap B l cs t hg hb hle hfit hpos
 unfold Oper.wp execOp
 simp only[ho,resolve,invoke,builtin,Sem.run_bind,Sem.run_pure,Result.andThen_ok,List.map_toArray,List.map_cons,List.map_nil,hd,hs,h0]
 exact h _ h1 h2
theorem sW{ops:Array Oper}{rest:List Oper}(hgd:o.guard=none)(d s:Operand)(dT sT:TypeId)(ho:o.op = .call { callee:=.builtin .copy,args:=#[d,s],argTypes:=#[dT,sT] })(elem:TypeId)(hu:P.underlying dT=some (.slice elem))(hsz:(P.info? elem).map (·.size)=some 1)
  (dp sp:Option Addr) (g off dLen dCap sLen sCap B:Nat) (hd:a.eval d = .slice dp dLen dCap) (hs:a.eval s = .slice sp sLen sCap)
  (l cs:List UInt8) (t:TypeId) (hg:w.heap[g]? = some (.cells (fE l).toArray t (0,0))) (hb:bI w B sp sLen cs) (hle:sLen<=dLen) (hfit:off+sLen<=l.length)
  (hpos:0<sLen->dp=some ⟨g,off,none⟩)
  (h:∀w',w'.heap[g]? = some (.cells (fE (over l off cs)).toArray t (0,0))->w.grownBy w' (some g)->wpList P ops Q rest (a.put o.dst (goInt sLen)) w'):wpList P ops Q (o::rest) a w :=
 wpList_plain hgd λ_ hK=>Az d s dT sT ho elem hu hsz dp sp g off dLen dCap sLen sCap B hd hs l cs t hg hb hle hfit hpos λw' h1 h2=>hK _ _ (h w' h1 h2)
end
theorem pU(k:Nat){P:Program}{w:World}{ops:Array Oper}{rest:List Oper}{a:Act}{Q:Exit->Act->World->Prop}{op:Op}{ty:TypeId}{pos:String}{aft:Array Edge}{gd:Option (Nat×Bool)}
  (h:wpList P ops Q (⟨some k,op,ty,pos,aft,gd⟩::rest) a w):wpList P ops Q (⟨some k,op,ty,pos,aft,gd⟩::rest) a w:=h
end Go.aN
namespace Go.aN
open Go.RowKit
structure ar(O:Nat->Prop)(w w':World):Prop where
 os:w'.os=w.os
 tape:w'.tape=w.tape
 output:w'.output=w.output
 size:w.heap.size<=w'.heap.size
 block:∀k,k<w.heap.size->¬O k->w'.heap[k]? = w.heap[k]?
theorem ar.refl(O:Nat->Prop)(w:World):ar O w w:=⟨rfl,rfl,rfl,Nat.le_refl _,λ_ _ _=>rfl⟩
theorem ar.aS{O:Nat->Prop}{w w':World}(h:Below w.heap.size w w'):ar O w w':=⟨h.os,h.tape,h.output,h.size,λk hk _=>h.block k hk⟩
theorem ar.trans{O O':Nat->Prop}{a b c:World}(h:ar O a b)(k:ar O' b c)(hO:∀j,O' j->O j\/a.heap.size<=j):ar O a c :=
 ⟨k.os.trans h.os,k.tape.trans h.tape,k.output.trans h.output,Nat.le_trans h.size k.size,λj hj hn =>
  (k.block j (Nat.lt_of_lt_of_le hj h.size) (λe=>(hO j e).elim hn (λg=>by omega))).trans (h.block j hj hn)⟩
theorem ar.next{O:Nat->Prop}{a b c:World}(h:ar O a b)(hb:Below b.heap.size b c):ar O a c:=h.trans (O':=λ_=>False) (ar.aS hb) (λ_ e=>e.elim)
theorem ar.mono{O O':Nat->Prop}{a b:World}(h:ar O a b)(hO:∀j,O j->O' j):ar O' a b:=⟨h.os,h.tape,h.output,h.size,λj hj hn=>h.block j hj (λe=>hn (hO j e))⟩
theorem ar.below{O:Nat->Prop}{n:Nat}{w w':World}(h:ar O w w')(hO:∀j,O j->n<=j)(hn:n<=w.heap.size):Below n w w' :=
 ⟨h.os,h.tape,h.output,h.size,λk hk=>h.block k zo (λe=>by have:=hO k e;omega)⟩
theorem ar.setCell{O:Nat->Prop}{a w:World}(h:ar O a w){p:Addr}(hp:O p.block\/a.heap.size<=p.block)(u:Value):ar O a (w.setCell p u) :=
 h.trans (O':=λj=>j=p.block) ⟨rfl,rfl,rfl,by simp[World.setCell],λk _ hn=>Below.heap_setCell _ _ _ _ hn⟩ (λj e=>by subst e;exact hp)
theorem ar.alloc{O:Nat->Prop}{a w:World}(h:ar O a w)(o:Obj):ar O a (w.alloc o):=h.next ((Below.refl _ w).alloc zl o)
theorem ar.cell{O:Nat->Prop}{w w':World}(h:ar O w w'){p:Addr}(hp:p.block<w.heap.size)(hn : ¬O p.block):w'.cell? p=w.cell? p:=World.cell?_of_block (w:=w) (h.block p.block hp hn)
theorem aF.only{O:Nat->Prop}{w w':World}{g:Nat}{cs:Array Value}{t:TypeId}(H:aF w g cs t)(h:ar O w w')(hn : ¬O g):aF w' g cs t:=H.keep (h.block g H.lt hn)
theorem ar.grown{O:Nat->Prop}{w w':World}{row:Option Nat}(h:w.grownBy w' row)(hO:∀k,row=some k->O k):ar O w w' :=
 ⟨h.os,h.tape,h.output,h.size,λk hk hn=>h.block k hk λe=>hn (hO k e.symm)⟩
section
variable {w w':World}{base e size n:Nat}{v:Value}{xs:List Value}
theorem bf(h:w.ownsRow base e size v n xs)(hk:∀g,v.ownBlock=some g->w'.heap[g]? = w.heap[g]?):w'.ownsRow base e size v n xs:=by
 refine⟨h.1,?_⟩
 rcases h.2 with⟨rfl,h0⟩ | ⟨g,cap,cur,rfl,h2,h3,h4⟩
 ·exact .inl ⟨rfl,h0⟩
 ·exact .inr ⟨g,cap,cur,rfl,h2,(hk g rfl).trans h3,h4⟩
theorem cO(h:w.ownsRow base e size v n xs):∃A c,v = .slice A n c/\n<=c/\c<=9223372036854775807:=by
 rcases h.2 with⟨rfl,rfl⟩ | ⟨g,cap,cur,rfl,h2,h3,h4,h5,_⟩
 ·exact⟨none,0,rfl,Nat.le_refl _,by omega⟩
 ·exact⟨_,cap,rfl,h4,by unfold maxLen at h5;omega⟩
theorem pX(h:w.ownsRow base e size v n xs){j:Nat}{u:Value}(hu:xs[j]? = some u) :
  ∃g c,v = .slice (some ⟨g,0,none⟩) n c/\n<=c/\c<=9223372036854775807/\base<=g/\g<w.heap.size/\w.cell? ⟨g,j,none⟩=some u/\w.frozen? ⟨g,j,none⟩=false:=by
 rcases h.2 with⟨rfl,rfl⟩ | ⟨g,cap,cur,rfl,h2,h3,h4,h5,_⟩
 ·have:=(List.getElem?_eq_some_iff.1 hu).1;have:=h.1;omega
 ·refine⟨g,cap,rfl,h4,by unfold maxLen at h5;omega,h2,(Array.getElem?_eq_some_iff.1 h3).1,?_,frozen_of_row w g j cur e h3⟩;have:=h.cells (g:=g) rfl j u hu
  have e:(Addr.add ⟨g,0,none⟩ j)=⟨g,j,none⟩:=by unfold Addr.add;split <;> simp_all
  rwa [e]at this
theorem cP{b2:Nat}(h:w.ownsRow base e size v n xs)(hb:∀g,v.ownBlock=some g->b2<=g):w.ownsRow b2 e size v n xs:=by
 refine⟨h.1,?_⟩
 rcases h.2 with⟨rfl,h0⟩ | ⟨g,cap,cur,rfl,h2,h4⟩
 ·exact .inl ⟨rfl,h0⟩
 ·exact .inr ⟨g,cap,cur,rfl,hb g rfl,h4⟩
end
theorem info_parts{P:Program}{t:TypeId}{z:Option Value}{a b:Nat}(h:(P.info? t).map (λi=>(i.zero,i.size,i.bytes))=some (z,a,b)):∃i,P.info? t=some i/\i.zero=z/\i.size=a/\i.bytes=b:=by
 cases hi:P.info? t with
 | none=>rw[hi]at h;cases h
 | some i=>rw[hi]at h;simp at h;exact⟨i,rfl,h.1,h.2.1,h.2.2⟩
theorem jP{P:Program}{w:World}{ops:Array Oper}{rest:List Oper}{o:Oper}{a:Act}{Q:Exit->Act->World->Prop}(n1:Nat)(hgd:o.guard=none)(s x:Operand)(t e:TypeId)
  (ho:o.op = .call { callee:=.builtin .append,args:=#[s,x],argTypes:=#[t,t] })
  (ht:P.underlying t=some (.slice e)) (z:Value) (size bytes:Nat) (hinfo:(P.info? e).map (λi=>(i.zero,i.size,i.bytes))=some (some z,size,bytes)) (hzs:z.cells.size=size) (hsz:0<size) (hby:bytes<=64)
  (v:Value) (n:Nat) (xs:List Value) (hs:a.eval s=v) (hown:w.ownsRow 0 e size v n xs)
  (us:List Value) (Vd:us.length=size) (h1:∀u∈us,u.oneCell'=true) (hx:a.eval x = .slice (some ⟨w.heap.size,0,none⟩) 1 1) (Sf:n+1=n1) (hn:n<=1000000000000)
  (h:∀A' c' w',Hid (w'.ownsRow 0 e size (.slice A' n1 c') n1 (xs++us))->Hid (w.grownBy w' v.ownBlock)->Hid ((Value.slice A' n1 c').ownBlock=v.ownBlock\/∃g,(Value.slice A' n1 c').ownBlock=some g/\w.heap.size<=g/\g<w'.heap.size)->wpList P ops Q rest (a.put o.dst (.slice A' n1 c')) w') :
  wpList P ops Q (o::rest) a (w.alloc (.cells us.toArray e)):=by
 subst Sf
 obtain⟨i,hi,hz0,hz1,jc⟩:=info_parts hinfo
 refine wpList_append_own_at (P:=P) (w.alloc (.cells us.toArray e)) hgd s x t ho 0 e i z size bytes ht hi hz0 hz1 jc hzs hsz v n xs hs (hown.alloc _)
  ⟨w.heap.size,0,none⟩ 1 1 us hx (by rw[Vd,Nat.one_mul]) ?_ h1 (by unfold maxLen;omega) ?_ (Nat.zero_le _) ?_
 ·intro j u hj
  have e1:(Addr.add ⟨w.heap.size,0,none⟩ j)=⟨w.heap.size,j,none⟩:=by unfold Addr.add;split <;> simp_all
  rw[e1,cell_of_row _ _ j _ e (0,0) (heap_alloc_new w _),List.getElem?_toArray,hj]
 ·have:(n+1)*bytes<=1000000000001*64:=Nat.mul_le_mul zo hby;omega
 ·intro v' w' g1 g2 _ g4;have hg:w.grownBy w' v.ownBlock:=(World.grownBy_alloc w _ _).trans g2;obtain⟨A',c',rfl,-,-⟩:=cO g1;refine h A' c' w' g1 hg (show _\/_ from ?_)
  rcases g4 with g4 | g4
  ·exact .inl g4
  ·refine .inr ⟨_,g4,by rw[World.size_alloc];omega,(g1.lt _ g4).2⟩
end Go.aN
namespace Go.aN
open Go.RowKit
section
variable {P:Program}{w:World}{o:Oper}{a:Act}{K:Act->World->Prop}{Q:Exit->Act->World->Prop}
theorem qW{ops:Array Oper}{rest:List Oper}(k:Nat)(hgd:o.guard=none)(s x:Operand)(t:TypeId)
  (ho:o.op = .call { callee:=.builtin .append,args:=#[s,x],argTypes:=#[t,t] })
  (base:Nat) (e:TypeId) (i:TypeInfo) (ht:P.underlying t=some (.slice e)) (hi:P.info? e=some i) (hz:i.zero=some (.int .u8 0)) (hsize:i.size=1) (hby:i.bytes=1)
  (v:Value) (n:Nat) (xs:List UInt8) (hs:a.eval s=v) (hown:w.ownsRow base e 1 v n (fE xs))
  (B:Nat) (A:Option Addr) (m c:Nat) (ys:List UInt8) (hx:a.eval x = .slice A m c) (hr:bI w B A m ys) (hk:n+m=k) (hn:k<=1073741824) (hbase:base<=w.heap.size)
  (h:∀A' c' w',w'.ownsRow base e 1 (.slice A' k c') k (fE (xs++ys))->w.grownBy w' v.ownBlock->(k<=c'/\c'<=9223372036854775807)->wpList P ops Q rest (a.put o.dst (.slice A' k c')) w') :
  wpList P ops Q (o::rest) a w:=by
 subst hk
 exact pS hgd s x t ho base e i ht hi hz hsize hby v n xs hs hown B A m c ys hx hr hn hbase h
end
end Go.aN
namespace Go.aN
open Go.RowKit
section
variable {P:Program}{w:World}{o:Oper}{a:Act}{Q:Exit->Act->World->Prop}
theorem gE{ops:Array Oper}{rest:List Oper}{W0:World}(k:Nat)(hgd:o.guard=none)(s x:Operand)(t:TypeId)
  (ho:o.op = .call { callee:=.builtin .append,args:=#[s,x],argTypes:=#[t,t] })
  (e:TypeId) (i:TypeInfo) (ht:P.underlying t=some (.slice e)) (hi:P.info? e=some i) (hz:i.zero=some (.int .u8 0)) (hsize:i.size=1) (hby:i.bytes=1)
  (v:Value) (n:Nat) (xs:List UInt8) (hs:a.eval s=v) (hown:w.ownsRow W0.heap.size e 1 v n (fE xs)) (hbel:Below W0.heap.size W0 w)
  (B:Nat) (A:Option Addr) (m c:Nat) (ys:List UInt8) (hx:a.eval x = .slice A m c) (hr:bI w B A m ys) (hk:n+m=k) (hn:k<=1073741824)
  (h:∀A' c' w',Hid (w'.ownsRow W0.heap.size e 1 (.slice A' k c') k (fE (xs++ys)))->Hid (Below W0.heap.size W0 w')->Hid (w.grownBy w' v.ownBlock)->Hid (k<=c'/\c'<=9223372036854775807)->wpList P ops Q rest (a.put o.dst (.slice A' k c')) w') :
  wpList P ops Q (o::rest) a w :=
 qW k hgd s x t ho W0.heap.size e i ht hi hz hsize hby v n xs hs hown B A m c ys hx hr hk hn hbel.size
  λA' c' w' h1 h2 h3=>h A' c' w' (Lib.hid h1) (Lib.hid (hbel.grown h2 hbel.size λk hk=>(hown.lt k hk).1)) (Lib.hid h2) (Lib.hid h3)
end
theorem below_drewN'{B:Nat}{a w:World}(h:Below B a w)(n:Nat):Below B a (w.drewN n):=⟨h.os,h.tape,h.output,h.size,h.block⟩
end Go.aN
namespace Go.aN
open Go.ChangeShapes Go.RowKit
structure Ints(k:IntKind)(w:World)(B:Nat)(A:Option Addr)(n:Nat)(zs:List Int):Prop where
 len:zs.length=n
 at_:0<n->∃b off,A=some ⟨b,off,none⟩/\b<B/\∀j,j<n->w.cell? ⟨b,off+j,none⟩=some (.int k (zs.getD j 0))
 fit:∀z∈zs,(Lit.int k z).wf=true
section
variable {k:IntKind}{w w':World}{B B' n:Nat}{A:Option Addr}{zs:List Int}
theorem Ints.keep(h:Ints k w B A n zs)(hk:∀p:Addr,p.block<B->w'.cell? p=w.cell? p):Ints k w' B A n zs :=
 ⟨h.len,λhn=>by
  obtain⟨b,off,e,hb,hc⟩:=h.at_ hn
  exact⟨b,off,e,hb,λj hj=>(hk _ hb).trans (hc j hj)⟩,h.fit⟩
theorem Ints.below(h:Ints k w B A n zs)(hb:Below B w w'):Ints k w' B A n zs:=h.keep λ_ hp=>hb.cell hp
theorem Ints.empty(k:IntKind)(w:World)(B:Nat)(A:Option Addr):Ints k w B A 0 []:=⟨rfl,λh=>absurd h zo,λ_ h=>by cases h⟩
theorem Ints.get(h:Ints k w B A n zs){j:Nat}(hj:j<n):(Lit.int k (zs.getD j 0)).wf=true:=by
 have hl:=h.len
 have e:zs.getD j 0=zs[j]:=by simp[List.getD,show j<zs.length by omega]
 rw[e];exact h.fit _ (List.getElem_mem zo)
theorem aaF{x:Addr}{len:Nat}{zs:List Int}(hl:len<=zs.length)(hc:∀i,i<zs.length->w.cell? (x.add i)=some (.int k (zs.getD i 0)))
  (hz:∀n∈zs,(Lit.int k n).wf=true):∃ys,Ints k w w.heap.size (some x) len ys:=by
 refine⟨zs.take len,by simp;omega,λhn=>?_,λz h=>hz z (List.mem_of_mem_take h)⟩
 obtain⟨b,off,sp⟩:=x
 obtain rfl:sp=none:=by simpa[Addr.add]using World.cell?_spot (hc 0 zo)
 have hb:=World.block_lt_of_cell? _ _ (hc 0 zo)
 refine⟨b,off,rfl,by simpa[Addr.add]using hb,λj hj=>?_⟩
 have h1:=hc j zo
 have e:(Addr.add ⟨b,off,none⟩ j)=⟨b,off+j,none⟩:=by unfold Addr.add;split <;> simp_all
 rw[← e,h1]
 simp[List.getD,hj]
end
def kz(k:IntKind)(zs:List Int):List Value:=zs.map (.int k)
end Go.aN
namespace Go.aN
open Go.RowKit
def Rd(w:World)(B:Nat)(size n:Nat)(v:Value)(xs:List Value):Prop :=
 ∃A c,v = .slice A n c/\n<=c/\c<=9223372036854775807/\xs.length=n*size/\(0<n->∃b off,A=some ⟨b,off,none⟩/\b<B/\∀j u,xs[j]? = some u->w.cell? ⟨b,off+j,none⟩=some u)
section
variable {w w':World}{B B' size n:Nat}{v:Value}{xs:List Value}
theorem Rd.nil(w:World)(B size:Nat):Rd w B size 0 (.slice none 0 0) []:=⟨none,0,rfl,Nat.le_refl _,by omega,by simp,λh=>absurd h zo⟩
theorem Rd.keep(h:Rd w B size n v xs)(hk:∀p:Addr,p.block<B->w'.cell? p=w.cell? p):Rd w' B size n v xs:=by
 obtain⟨A,c,e,h1,h2,h3,h4⟩:=h;refine⟨A,c,e,h1,h2,h3,λhn=>?_⟩;obtain⟨b,off,e2,hb,hc⟩:=h4 hn;exact⟨b,off,e2,hb,λj u hu=>(hk ⟨b,off+j,none⟩ hb).trans (hc j u hu)⟩
theorem Rd.more(h:Rd w B size n v xs)(hB:B<=B'):Rd w B' size n v xs:=by
 obtain⟨A,c,e,h1,h2,h3,h4⟩:=h;refine⟨A,c,e,h1,h2,h3,λhn=>?_⟩;obtain⟨b,off,e2,hb,hc⟩:=h4 hn;exact⟨b,off,e2,by omega,hc⟩
theorem Rd.below(h:Rd w B size n v xs)(hb:Below B w w'):Rd w' B size n v xs:=h.keep λ_ hp=>hb.cell hp
theorem Rd.next(h:Rd w w.heap.size size n v xs)(hb:Below w.heap.size w w'):Rd w' w'.heap.size size n v xs:=(h.below hb).more hb.size
theorem Rd.only{O:Nat->Prop}(h:Rd w w.heap.size size n v xs)(ho:ar O w w')(hn:∀g,v.ownBlock=some g->¬O g):Rd w' w'.heap.size size n v xs:=by
 obtain⟨A,c,rfl,h1,h2,h3,h4⟩:=h;refine⟨A,c,rfl,h1,h2,h3,λhp=>?_⟩;obtain⟨b,off,rfl,hb,hc⟩:=h4 hp;exact⟨b,off,rfl,Nat.lt_of_lt_of_le hb ho.size,λj u hu=>(ho.cell (p:=⟨b,off+j,none⟩) hb (hn b rfl)).trans (hc j u hu)⟩
theorem Rd.len(h:Rd w B size n v xs):∃A c,v = .slice A n c/\n<=c/\c<=9223372036854775807:=by
 obtain⟨A,c,e,h1,h2,_⟩:=h;exact⟨A,c,e,h1,h2⟩
theorem Rd.at_(h:Rd w B size n v xs)(hn:0<n):∃b off c,v = .slice (some ⟨b,off,none⟩) n c/\n<=c/\c<=9223372036854775807/\b<B/\∀j u,xs[j]? = some u->w.cell? ⟨b,off+j,none⟩=some u:=by
 obtain⟨A,c,rfl,h1,h2,_,h4⟩:=h;obtain⟨b,off,rfl,hb,hc⟩:=h4 hn;exact⟨b,off,c,rfl,h1,h2,hb,hc⟩
theorem Rd.oH{base e:Nat}(h:w.ownsRow base e size v n xs):Rd w w.heap.size size n v xs:=by
 obtain⟨A,c,rfl,h1,h2⟩:=cO h;refine⟨A,c,rfl,h1,h2,h.1,λhn=>?_⟩
 rcases h.2 with⟨_,h0⟩ | ⟨g,cap,cur,e1,_,h3,_⟩
 ·omega
 ·injection e1 with e1 _ _;subst e1;refine⟨g,0,rfl,(Array.getElem?_eq_some_iff.1 h3).1,λj u hu=>?_⟩;have:=h.cells (g:=g) rfl j u hu
  have e:(Addr.add ⟨g,0,none⟩ j)=⟨g,j,none⟩:=by unfold Addr.add;split <;> simp_all
  rw[Nat.zero_add]
  rwa [e]at this
end
theorem F1{P:Program}(t e:TypeId)(ht:P.underlying t=some (.slice e))(A:Option Addr)(n c:Nat)(W:World):(binOp .eql t (.slice A n c) (.slice none 0 0)).run P W = .ok (.bool A.isNone) W:=by
 have h:(Op.equal t (.slice A n c) (.slice none 0 0)).run P W = .ok A.isNone W:=by
  show(Op.equalIn (9999+1) t _ _).run _ _=_;rw[Op.equalIn]
  cases A <;> simp[run_underlying ht]
 simp[binOp,h]
theorem yy{P:Program}{w:World}{ops:Array Oper}{rest:List Oper}{o:Oper}{a:Act}{Q:Exit->Act->World->Prop}(hgd:o.guard=none)(s x:Operand)(t e:TypeId)
  (ho:o.op = .call { callee:=.builtin .append,args:=#[s,x],argTypes:=#[t,t] })
  (ht:P.underlying t=some (.slice e)) (z:Value) (size bytes:Nat) (hinfo:(P.info? e).map (λi=>(i.zero,i.size,i.bytes))=some (some z,size,bytes)) (hzs:z.cells.size=size) (hsz:0<size) (hby:bytes<=64)
  (hs:a.eval s = .slice (some ⟨w.heap.size,0,none⟩) 0 0) (n c:Nat) (ad:Addr) (xs:List Value) (hx:a.eval x = .slice (some ad) n c) (hr:Rd w w.heap.size size n (.slice (some ad) n c) xs) (h1:∀u∈xs,u.oneCell'=true) (hn:n<=1000000000000)
  (h:∀A' c' w',Hid (w'.ownsRow w.heap.size e size (.slice A' n c') n xs)->Hid (Below w.heap.size w w')->wpList P ops Q rest (a.put o.dst (.slice A' n c')) w') :
  wpList P ops Q (o::rest) a (w.alloc (.cells #[] e)):=by
 obtain⟨i,hi,hz0,hz1,jc⟩:=info_parts hinfo
 have hb:Below w.heap.size w (w.alloc (.cells #[] e)):=(Below.refl _ w).alloc zl _
 have hown:(w.alloc (.cells #[] e)).ownsRow w.heap.size e size (.slice (some ⟨w.heap.size,0,none⟩) 0 0) 0 [] :=
  World.ownsRow_made w #[] 0 zl (by unfold maxLen;omega) zs
 have hl:xs.length=n*size:=by obtain⟨_,_,_,_,_,h3,_⟩:=hr;exact h3
 refine wpList_append_own_at (P:=P) (w.alloc (.cells #[] e)) hgd s x t ho w.heap.size e i z size bytes ht hi hz0 hz1 jc hzs hsz _ 0 [] hs hown ad n c xs hx hl ?_ h1 (by unfold maxLen;omega) ?_ (by rw[World.size_alloc];omega) ?_
 ·intro j u hj
  have hn0:0<n:=by
   rcases Nat.eq_zero_or_pos n with h0 | h0
   ·subst h0;have:=(List.getElem?_eq_some_iff.1 hj).1;omega
   ·exact h0
  obtain⟨b,off,c2,e2,_,_,hlt,hc⟩:=hr.at_ hn0;injection e2 with e2 _ _;obtain rfl:=Option.some.inj e2
  have e1:(Addr.add ⟨b,off,none⟩ j)=⟨b,off+j,none⟩:=by unfold Addr.add;split <;> simp_all
  rw[e1];exact(hb.cell (p:=⟨b,off+j,none⟩) hlt).trans (hc j u hj)
 ·have:(0+n)*bytes<=1000000000000*64:=Nat.mul_le_mul zo hby;omega
 ·intro v' w' g1 g2 _ _;rw[Nat.zero_add,List.nil_append]at g1;obtain⟨A',c',rfl,-,-⟩:=cO g1;exact h A' c' w' g1 (hb.grown g2 (by rw[World.size_alloc];omega) λk hk=>(hown.lt k hk).1)
theorem eJ{P:Program}{w:World}{o:Oper}{a:Act}{K:Act->World->Prop}{Q:Exit->Act->World->Prop}{ops:Array Oper}{E:Prop}(hgd:o.guard=none)(l c:Operand)(t:TypeId)(hop:o.op=Op.makeSlice t l c)
  (base:Nat) (e:TypeId) (z:Value) (size bytes:Nat) (ht:P.underlying t=some (.slice e)) (hinfo:(P.info? e).map (λi=>(i.zero,i.size,i.bytes))=some (some z,size,bytes)) (hby:bytes<=64)
  (k:IntKind) (n:Nat) (hl:a.eval l = .int k (n:Int)) (hc:a.eval c = .int k (n:Int)) (hn:n<=1000000000000) (hb:base<=w.heap.size)
  (h:∀w',Hid (w'.ownsRow base e size (.slice (some ⟨w.heap.size,0,none⟩) n n) n (madeCells z.cells (n*size)).toList)->Hid (Below w.heap.size w w')->K (a.put o.dst (.slice (some ⟨w.heap.size,0,none⟩) n n)) w') :
  if Region.wanted o (yielded ops a.tmps)=true then Oper.wp P o a w K Q else E:=by
 have hw:Region.wanted o (yielded ops a.tmps)=true:=by simp[Region.wanted,hgd]
 rw[if_pos hw]
 obtain⟨i,hi,hz0,hz1,jc⟩:=info_parts hinfo
 have hbb:i.bytes*n<=281474976710656:=by
  rw[jc];have:bytes*n<=64*1000000000000:=Nat.mul_le_mul hby hn;omega
 obtain⟨w',hrun,r1,r2⟩:=run_make_full (P:=P) w base t e i z size ht hi hz0 hz1 k k n hbb (by unfold maxLen;omega) hb
 unfold Oper.wp
 simp[execOp,hop,hl,hc,hrun,Result.andThen]
 exact h _ r1 ((Below.refl _ w).grown r2 zl zs)
theorem kB{K:World->Prop}{x:World}(h:∀V,V=x->K V):K x:=h x rfl
end Go.aN
namespace Go.Proofs.YtbhnbcadgmagpaaGreatDoor
namespace J2
def ed(L:Array Bool)(D:List Nat):Array Bool:=D.foldl (λl i=>l.setIfInBounds i true) L
theorem A8(L:Array Bool)(D:List Nat)(i:Nat):ed L (D++[i])=(ed L D).setIfInBounds i true:=by simp[ed]
theorem A9{D E:List Nat}(h:D.Perm E):∀L:Array Bool,ed L D=ed L E:=by
 induction h with
 | nil=>intro L;rfl
 | cons x _ ih=>intro L;exact ih _
 | swap x y l =>
  intro L
  show ed ((L.setIfInBounds y true).setIfInBounds x true) l=ed ((L.setIfInBounds x true).setIfInBounds y true) l
  by_cases h:y=x
  ·rw[h]
  ·rw[Array.setIfInBounds_comm _ _ h]
 | trans _ _ ih1 ih2=>intro L;exact(ih1 L).trans (ih2 L)
theorem sI:∀(D:List Nat) (L:Array Bool),(ed L D).size=L.size
 | [],_=>rfl
 | x::D,L=>(sI D _).trans zs
theorem lB{i:Nat}(d:Bool):∀(D:List Nat) (L:Array Bool),i∉D->(ed L D).getD i d=L.getD i d
 | [],_,_=>rfl
 | x::D,L,h=>by
  have h1:i≠x:=λe=>h (by simp[e]);have h2:i∉D:=λe=>h (by simp[e]);exact(lB d D _ h2).trans (getD_set_ne d (Ne.symm h1))
theorem Gc{i j:Nat}(L:Array Bool)(h:L.getD j true=true):(L.setIfInBounds i true).getD j true=true:=by
 by_cases hij:i=j
 ·subst hij
  rcases Nat.lt_or_ge i L.size with h' | h'
  ·simp[h']
  ·simp[h']
 ·rw[getD_set_ne true hij];exact h
theorem lC{i:Nat}:∀(D:List Nat) (L:Array Bool),L.getD i true=true->(ed L D).getD i true=true
 | [],_,h=>h
 | x::D,L,h=>lC D _ (Gc L h)
theorem uj{i:Nat}:∀(D:List Nat) (L:Array Bool),i∈D->(ed L D).getD i true=true
 | [],_,h=>by cases h
 | x::D,L,h=>by
  rcases List.mem_cons.1 h with rfl | h
  ·refine lC D _ ?_
   rcases Nat.lt_or_ge i L.size with h' | h'
   ·simp[h']
   ·simp[h']
  ·exact uj D _ h
theorem J3{L:Array Bool}{i:Nat}(h:L.getD i true=false):L.getD i false=false:=by
 rcases Nat.lt_or_ge i L.size with h' | h'
 ·simp[h']at h ⊢;exact h
 ·simp[h']
theorem NL{L:Array Bool}{i:Nat}(h:L.getD i false=true):L.getD i true=true:=by
 rcases Nat.lt_or_ge i L.size with h' | h'
 ·simp[h']at h ⊢;exact h
 ·simp[h']
theorem A_{i:Nat}(D:List Nat)(L:Array Bool)(h:L.getD i false=true):(ed L D).getD i false=true:=by
 have h1:=lC D L (NL h)
 rcases Nat.lt_or_ge i L.size with h' | h'
 ·have h2:i<(ed L D).size:=by rw[sI];exact h'
  simp[h2]at h1 ⊢;exact h1
 ·simp[h']at h
section
variable {P:Program}{md:Region.Mode}{ops:Array Oper}{Q:Exit->Act->World->Prop}
def l_(md:Region.Mode)(ops:Array Oper)(L:Array Bool)(ew:List Nat):Bool:=ew.all λi=>(Region.ready md ops L).contains i
def NM(md:Region.Mode)(ops:Array Oper)(L:Array Bool)(ew:List Nat):Bool :=
 (List.range ops.size).all λi=>ew.contains i||L.getD i true||(match ops[i]? with | none=>true | some o=>ew.all λp=>o.after.any λe=>Region.binds md e&&e.on==p)
theorem C6(ew:List Nat)(L:Array Bool)(a:Act)(J:List Nat->World->Prop)(fuel:Nat)(hnd:ew.Nodup)(hin:l_ md ops L ew=true)(hout:NM md ops L ew=true)
  (hstep:∀D i w,(∀x∈D,x∈ew)->i∈ew->i∉D->J D w->wpOp P ops Q i (λa' w'=>a'=a/\J (D++[i]) w') a w)
  (hend:∀D w,D.Perm ew->J D w->wpAny P md ops Q fuel (ed L ew) a w) :
  ∀(n:Nat) (R D:List Nat) (w:World),R.length=n->(D++R).Perm ew->J D w->wpAny P md ops Q (fuel+n) (ed L D) a w:=by
 intro n
 induction n with
 | zero =>
  intro R D w hR hp hJ
  obtain rfl:R=[]:=List.length_eq_zero_iff.1 hR
  rw[List.append_nil]at hp
  rw[A9 hp L]
  exact hend D w hp hJ
 | succ n ih =>
  intro R D w hR hp hJ
  have Zq:(D++R).Nodup:=hp.nodup_iff.2 hnd
  have hD:∀x∈D,x∈ew:=λx hx=>hp.subset (by simp[hx])
  have Ux:∀x∈R,x∈ew:=λx hx=>hp.subset (by simp[hx])
  have Ba:∀x∈R,x∉D:=λx hx hx2=>(List.nodup_append.1 Zq).2.2 x hx2 x hx rfl
  have hread:∀x∈ew,x∈Region.ready md ops L:=λx hx=>by
   have:=List.all_eq_true.1 hin x hx;simpa using this
  have hall:∀i∈Region.ready md ops (ed L D),i∈R:=by
   intro i hi;obtain⟨h0,o,ho,hw⟩:=mem_ready.1 hi
   have XS:i∉D:=λh=>by rw[uj D L h]at h0;cases h0
   rw[lB true D L XS]at h0
   have Zr:i∈ew:=by
    have h1:=List.all_eq_true.1 hout i (List.mem_range.2 (Array.getElem?_eq_some_iff.1 ho).1);rw[h0,ho]at h1;simp only[Bool.or_false,Bool.or_eq_true,List.contains_iff_mem]at h1
    rcases h1 with h1 | h1
    ·exact h1
    ·exfalso
     have hne:R≠[]:=λe=>by rw[e]at hR;cases hR
     obtain⟨r,hr⟩:=List.exists_mem_of_ne_nil R hne;have h2:=List.all_eq_true.1 h1 r (Ux r hr);obtain⟨e,he,QF⟩:=Array.any_eq_true'.1 h2;simp only[Bool.and_eq_true,beq_iff_eq]at QF;have h3:=hw e he QF.1;rw[QF.2,lB false D L (Ba r hr),J3 (mem_ready.1 (hread r (Ux r hr))).1]at h3
     cases h3
   rcases List.mem_append.1 (hp.symm.subset Zr)with h | h
   ·exact absurd h XS
   ·exact h
  have hsome:Region.ready md ops (ed L D)≠[]:=by
   have hne:R≠[]:=λe=>by rw[e]at hR;cases hR
   obtain⟨r,hr⟩:=List.exists_mem_of_ne_nil R hne;obtain⟨h0,o,ho,hw⟩:=mem_ready.1 (hread r (Ux r hr));have:r∈Region.ready md ops (ed L D):=mem_ready.2 ⟨by rw[lB true D L (Ba r hr)];exact h0,o,ho,λe he hb=>A_ D L (hw e he hb)⟩;intro e;rw[e]at this
   cases this
  refine wpAny_all rfl hsome λi hi=>?_
  have Uy:=hall i hi
  refine wpOp_mono (λa' w' h=>?_) (hstep D i w hD (Ux i Uy) (Ba i Uy) hJ)
  obtain⟨rfl,Zs⟩:=h
  rw[← A8]
  refine ih (R.erase i) (D++[i]) w' ?_ ?_ Zs
  ·rw[List.length_erase_of_mem Uy,hR];rfl
  ·have h1:R.Perm (i::R.erase i):=List.perm_cons_erase Uy
   have h2:(D++[i]++R.erase i).Perm (D++R):=by
    rw[List.append_assoc];exact(List.Perm.append_left D h1.symm)
   exact h2.trans hp
theorem q9(ew:List Nat)(L:Array Bool)(a:Act)(J:List Nat->World->Prop)(fuel n:Nat)(hnd:ew.Nodup)(hlen:ew.length=n)(hin:l_ md ops L ew=true)(hout:NM md ops L ew=true)(w:World)(hJ:J [] w)
  (hstep:∀D i w,(∀x∈D,x∈ew)->i∈ew->i∉D->J D w->wpOp P ops Q i (λa' w'=>a'=a/\J (D++[i]) w') a w)
  (hend:∀D w,D.Perm ew->J D w->wpAny P md ops Q fuel (ed L ew) a w):wpAny P md ops Q (fuel+n) L a w :=
 C6 ew L a J fuel hnd hin hout hstep hend n ew [] w hlen (List.Perm.refl _) hJ
theorem ol(i d:Nat)(v:Value){oi:Oper}{fuel:Nat}{L:Array Bool}{a:Act}{w:World}(hi:ops[i]? = some oi)(hd:oi.dst=some d)
  (hs:Region.noSelect ops=true) (hf:Region.free md ops L i=true) (hr:(Region.ready md ops L).contains i=true)
  (hQ:∀c a w,Q (.panic c) (a.put oi.dst v) w->Q (.panic c) a w) (hy:Yields P ops oi v a)
  (h:wpAny P md ops Q fuel (L.setIfInBounds i true) { a with tmps:=a.tmps.setIfInBounds d v } w):wpAny P md ops Q (fuel+1) L a w:=by
 refine wpAny_take hi hs hf hr hQ hy ?_
 rw[hd]
 exact h
theorem Bb{i:Nat}{o:Oper}{a:Act}{w w':World}{K:Act->World->Prop}{t:TypeId}{m k v:Operand}(ho:ops[i]? = some o)(hg:o.guard=none)(hd:o.dst=none)(hop:o.op = .insert t m k v)
  (h:(Instr.mapUpdate t (a.eval m) (a.eval k) (a.eval v)).run P w = .ok () w') (hK:K a w'):wpOp P ops Q i K a w:=by
 refine wpOp_step ho (λK' hK'=>?_)
 have hw:Region.wanted o (yielded ops a.tmps)=true:=by simp[Region.wanted,hg]
 rw[if_pos hw]
 unfold Oper.wp
 have hx:(execOp a.eval o).run P w = .ok (.value undef) w'\/(execOp a.eval o).run P w = .ok .skip w':=by
  simp[execOp,hop,h,Result.andThen]
 have hp:∀x,a.put o.dst x=a:=λx=>by rw[hd];rfl
 rcases hx with hx | hx <;> rw[hx]
 ·show K' (a.put o.dst undef) w';rw[hp];exact hK' _ _ hK
 ·show K' (a.put o.dst undef) w';rw[hp];exact hK' _ _ hK
end
end J2
end Go.Proofs.YtbhnbcadgmagpaaGreatDoor
namespace Go.aN
section
variable {P:Program}{ops:Array Oper}{Q:Exit->Act->World->Prop}{md:Region.Mode}{S:World->Prop}{last:Nat}
def j5(P:Program)(md:Region.Mode)(ops:Array Oper)(Q:Exit->Act->World->Prop)(S:World->Prop)(last:Nat):Nat->Array Bool->Act->World->Prop
 | 0,l,a,w=>Region.ready md ops l=[]/\Q .normal a w
 | n+1,l,a,w=>(Region.ready md ops l=[]->Q .normal a w)/\∀i∈Region.ready md ops l,wpOp P ops Q i (λa' w'=>(i≠last->S w')/\j5 P md ops Q S last n (l.setIfInBounds i true) a' w') a w
theorem j5.any:∀(n:Nat) (l:Array Bool) (a:Act) (w:World),j5 P md ops Q S last n l a w->wpAny P md ops Q n l a w
 | 0,_,_,_,h=>h
 | n+1,_,_,_,h=>⟨h.1,λi hi=>wpOp_mono (λa' w' h'=>j5.any n _ a' w' h'.2) (h.2 i hi)⟩
def Kq(md:Region.Mode)(ops:Array Oper)(last i:Nat):Bool:=i != last&&(match ops[last]? with | none=>false | some o=>o.after.any λe=>Region.binds md e&&e.on==i)
theorem Dh{L:Array Bool}{i j:Nat}{oj:Oper}(hall:∀e∈oj.after,Region.binds md e=true->L.getD e.on false=true)(h1:L.getD i true=false):∀e∈oj.after,Region.binds md e=true->e.on≠i:=λe he hb heq=>by
 have h:=hall e he hb;rw[heq]at h
 rcases Nat.lt_or_ge i L.size with h' | h'
 ·simp[h']at h h1;rw[h1]at h;cases h
 ·simp[Array.getElem?_eq_none h']at h
theorem Di{i:Nat}{oi:Oper}{v:Value}(hi:ops[i]? = some oi)(hsel:∀(j:Nat) (o:Oper) cs b,ops[j]? = some o->o.op ≠ .select cs b)
  (hQ:∀c a w,Q (.panic c) (a.put oi.dst v) w->Q (.panic c) a w) (hil:i≠last) (S5:∀o,ops[last]? = some o->∃e∈o.after,Region.binds md e=true/\e.on=i) :
  ∀(n:Nat) (L:Array Bool) (a:Act) (w:World),
   (∀j oj,ops[j]? = some oj->j≠i->L.getD j true=false->(∀e∈oj.after,Region.binds md e=true->e.on≠i)->oi.apart ops oj=true) →
   i∈Region.ready md ops L->YieldsIf P ops S oi v a->S w →
   j5 P md ops Q S last n (L.setIfInBounds i true) (a.put oi.dst v) w->j5 P md ops Q S last (n+1) L a w:=by
 intro n
 induction n with
 | zero =>
  intro L a w _ hr hy hS H
  refine⟨λh=>(by rw[h]at hr;cases hr),λj hj=>?_⟩
  by_cases hji:j=i
  ·subst hji;exact hy.wpOp hi hS ⟨λ_=>hS,H⟩
  ·have:=ready_mono hj hji;rw[H.1]at this
   cases this
 | succ n ih =>
  intro L a w hfree hr hy hS H
  refine⟨λh=>(by rw[h]at hr;cases hr),λj hj=>?_⟩
  by_cases hji:j=i
  ·subst hji;exact hy.wpOp hi hS ⟨λ_=>hS,H⟩
  ·have h1:=H.2 j (ready_mono hj hji);obtain⟨Kr,oj,MW,hall⟩:=mem_ready.1 hj;have Ba:=Dh (j:=j) hall (mem_ready.1 hr).1
   have hjl:j≠last:=λe=>by
    subst e;obtain⟨e,he,hb,h2⟩:=S5 oj MW;exact Ba e he hb h2
   have h2:=wpOp_putIf MW (hfree j oj MW hji Kr Ba) (λcs b=>hsel i oi cs b hi) (λcs b=>hsel j oj cs b MW) hQ hy h1
   have Dj:∀k ok,ops[k]? = some ok->k≠i->(L.setIfInBounds j true).getD k true=false →
     (∀e∈ok.after,Region.binds md e=true->e.on≠i)->oi.apart ops ok=true:=λk ok hk hki hun hno=>by
    refine hfree k ok hk hki ?_ hno
    by_cases hjk:j=k
    ·subst hjk;exact Kr
    ·rw[getD_set_ne true hjk]at hun;exact hun
   refine wpOp_mono (λa' w' h3=>⟨h3.2.1,ih (L.setIfInBounds j true) a' w' Dj (ready_mono hr (Ne.symm hji)) h3.1 (h3.2.1 hjl) ?_⟩) h2;rw[Array.setIfInBounds_comm _ _ hji];exact h3.2.2
theorem dU{i:Nat}{oi:Oper}{v:Value}{n:Nat}{L:Array Bool}{a:Act}{w:World}(hi:ops[i]? = some oi)
  (hs:Region.noSelect ops=true) (hf:Region.free md ops L i=true) (hr:(Region.ready md ops L).contains i=true) (hl:Kq md ops last i=true)
  (hQ:∀c a w,Q (.panic c) (a.put oi.dst v) w->Q (.panic c) a w) (hy:YieldsIf P ops S oi v a) (hS:S w)
  (h:j5 P md ops Q S last n (L.setIfInBounds i true) (a.put oi.dst v) w):j5 P md ops Q S last (n+1) L a w:=by
 unfold Kq at hl
 rw[Bool.and_eq_true]at hl
 refine Di hi (Region.noSelect_spec hs) hQ (by simpa using hl.1) (λo ho=>?_) n L a w (Region.free_spec hi hf) (by simpa using hr) hy hS h
 have h2:=hl.2
 rw[ho]at h2
 obtain⟨e,he,h3⟩:=Array.any_eq_true'.1 h2
 rw[Bool.and_eq_true]at h3
 exact⟨e,he,h3.1,by simpa using h3.2⟩
theorem eS{v:Value}{n:Nat}{L:Array Bool}{a:Act}{w:World}{op:Op}{ty:TypeId}{pos:String}{aft:Array Edge}{gd:Option (Nat×Bool)}(i d:Nat)(hS:S w)(h:j5 P md ops Q S last n (L.setIfInBounds i true) (a.put (some d) v) w)(hi:ops[i]? = some ⟨some d,op,ty,pos,aft,gd⟩:=by rfl)(h0:Region.wanted ⟨some d,op,ty,pos,aft,gd⟩ (yielded ops a.tmps)=true:=by rfl)(hy:∀w,S w->(execOp a.eval ⟨some d,op,ty,pos,aft,gd⟩).run P w=.ok (.value v) w:=by(intro w' hS;(try dsimp only at hS);(try simp only[Act.put,List.setIfInBounds_toArray,List.set_cons_zero,List.set_cons_succ]);go_simp;(try with_reducible rfl)))
  (hs:Region.noSelect ops=true:=by kernel_rfl) (hf:Region.free md ops L i=true:=by kernel_rfl) (hr:(Region.ready md ops L).contains i=true:=by kernel_rfl) (hl:Kq md ops last i=true:=by kernel_rfl) (hQ:∀c a w,Q (.panic c) (a.put (some d) v) w->Q (.panic c) a w:=by exact λ_ _ _ h=>h) : j5 P md ops Q S last (n+1) L a w:=dU hi hs hf hr hl hQ (Or.inl ⟨h0,hy⟩) hS h
def eW(P:Program)(md:Region.Mode)(ops:Array Oper)(Q:Exit->Act->World->Prop)(S:World->Prop)(last:Nat)(n:Nat)(L:Array Bool)(a:Act)(w:World)(rs:List Nat):Prop :=
 ∀i∈rs,wpOp P ops Q i (λa' w'=>(i≠last->S w')/\j5 P md ops Q S last n (L.setIfInBounds i true) a' w') a w
theorem eW.nil{n:Nat}{L:Array Bool}{a:Act}{w:World}:eW P md ops Q S last n L a w []:=λ_ h=>by cases h
theorem eW.cons{n:Nat}{L:Array Bool}{a:Act}{w:World}{i:Nat}{o:Oper}{rs:List Nat}(ho:ops[i]? = some o)
  (h:∀K':Act->World->Prop,Shut (∀a w,S w->(S w->j5 P md ops Q S last n (L.setIfInBounds i true) a w)->K' a w)->if Region.wanted o (yielded ops a.tmps)=true then Oper.wp P o a w K' Q else K' (a.put o.dst undef) w)
  (hs:eW P md ops Q S last n L a w rs):eW P md ops Q S last n L a w (i::rs):=λj hj=>by
 rcases List.mem_cons.1 hj with rfl | hj
 ·exact wpOp_step ho (λK' hK=>h K' (λa w hS hW=>hK a w ⟨λ_=>hS,hW hS⟩))
 ·exact hs j hj
theorem eW.end_{n:Nat}{L:Array Bool}{a:Act}{w:World}{o:Oper}(ho:ops[last]? = some o)
  (h:∀K':Act->World->Prop,Shut (∀a w,j5 P md ops Q S last n (L.setIfInBounds last true) a w->K' a w)->if Region.wanted o (yielded ops a.tmps)=true then Oper.wp P o a w K' Q else K' (a.put o.dst undef) w) :
  eW P md ops Q S last n L a w [last]:=λj hj=>by
 obtain rfl:=List.mem_singleton.1 hj
 exact wpOp_step ho (λK' hK=>h K' (λa w hW=>hK a w ⟨λe=>absurd rfl e,hW⟩))
theorem bu{rs:List Nat}{n:Nat}{L:Array Bool}{a:Act}{w:World}(hr:Region.ready md ops L=rs)(hne:rs≠[])(h:eW P md ops Q S last n L a w rs):j5 P md ops Q S last (n+1) L a w :=
 ⟨λh0=>absurd (hr▸h0) hne,hr▸h⟩
theorem gm{L:Array Bool}{a:Act}{w:World}(hr:Region.ready md ops L=[])(h:Q .normal a w):∀n,j5 P md ops Q S last n L a w
 | 0=>⟨hr,h⟩
 | _+1=>⟨λ_=>h,by rw[hr];simp⟩
theorem iz(last:Nat){id:Nat}{a:Act}{w:World}(hm:P.follows .mixedOrders=true)(hS:S w.drew)
  (h:S w.drew->j5 P .any ops Q S last ops.size (Array.replicate ops.size false) a w.drew):(Code.region id ops true).wp P Q a w :=
 wp_region_any hm (j5.any _ _ _ _ (h hS))
end
end Go.aN
namespace Go.aN
section
variable {P:Program}{ops:Array Oper}{Q:Exit->Act->World->Prop}{md:Region.Mode}{S:World->Prop}{last:Nat}
def UE(md:Region.Mode)(ops:Array Oper)(k i:Nat):Prop:=∀o,ops[k]? = some o->∃e∈o.after,Region.binds md e=true/\e.on=i
def NY(md:Region.Mode)(ops:Array Oper)(k i:Nat):Bool:=match ops[k]? with | none=>false | some o=>o.after.any λe=>Region.binds md e&&e.on==i
theorem KD{k i:Nat}(h:NY md ops k i=true):UE md ops k i:=λo ho=>by
 unfold NY at h;rw[ho]at h;obtain⟨e,he,h3⟩:=Array.any_eq_true'.1 h;rw[Bool.and_eq_true]at h3;exact⟨e,he,h3.1,by simpa using h3.2⟩
def Sq(md:Region.Mode)(ops:Array Oper)(last:Nat)(L:Array Bool):Nat->List Nat->Prop
 | i,[]=>UE md ops last i
 | i,k::c=>UE md ops k i/\L.getD k true=false/\Sq md ops last L k c
def NZ(md:Region.Mode)(ops:Array Oper)(last:Nat)(L:Array Bool):Nat->List Nat->Bool
 | i,[]=>NY md ops last i
 | i,k::c=>NY md ops k i && !(L.getD k true)&&NZ md ops last L k c
theorem KE{L:Array Bool}:∀(c:List Nat) (i:Nat),NZ md ops last L i c=true->Sq md ops last L i c
 | [],i,h=>KD h
 | k::c,i,h=>by
  unfold NZ at h;rw[Bool.and_eq_true,Bool.and_eq_true]at h;exact⟨KD h.1.1,by simpa using h.1.2,KE c k h.2⟩
theorem EO{L:Array Bool}{i j k:Nat}(hd:UE md ops k i)(hi:L.getD i true=false)(hj:j∈Region.ready md ops L):j≠k:=λe=>by
 subst e;obtain⟨_,oj,MW,hall⟩:=mem_ready.1 hj;obtain⟨e,he,hb,h2⟩:=hd oj MW;exact Dh (j:=j) hall hi e he hb h2
theorem EP{L:Array Bool}{j:Nat}(hj:j∈Region.ready md ops L):∀(c:List Nat) (i:Nat),Sq md ops last L i c->L.getD i true=false->j≠last
 | [],_,h,hi=>EO h hi hj
 | _::c,_,h,_=>EP hj c _ h.2.2 h.2.1
theorem ER{L:Array Bool}{j:Nat}(hj:j∈Region.ready md ops L):∀(c:List Nat) (i:Nat),Sq md ops last L i c->L.getD i true=false->Sq md ops last (L.setIfInBounds j true) i c
 | [],_,h,_=>h
 | k::c,i,h,hi=>⟨h.1,by
   have hjk:j≠k:=EO h.1 hi hj
   rw[getD_set_ne true hjk]
   exact h.2.1,ER hj c k h.2.2 h.2.1⟩
theorem Dp{i:Nat}{oi:Oper}{v:Value}(c:List Nat)(hi:ops[i]? = some oi)(hsel:∀(j:Nat) (o:Oper) cs b,ops[j]? = some o->o.op ≠ .select cs b)
  (hQ:∀c a w,Q (.panic c) (a.put oi.dst v) w->Q (.panic c) a w) (hil:i≠last) :
  ∀(n:Nat) (L:Array Bool) (a:Act) (w:World),Sq md ops last L i c →
   (∀j oj,ops[j]? = some oj->j≠i->L.getD j true=false->(∀e∈oj.after,Region.binds md e=true->e.on≠i)->oi.apart ops oj=true) →
   i∈Region.ready md ops L->YieldsIf P ops S oi v a->S w →
   j5 P md ops Q S last n (L.setIfInBounds i true) (a.put oi.dst v) w->j5 P md ops Q S last (n+1) L a w:=by
 intro n
 induction n with
 | zero =>
  intro L a w _ _ hr hy hS H
  refine⟨λh=>(by rw[h]at hr;cases hr),λj hj=>?_⟩
  by_cases hji:j=i
  ·subst hji;exact hy.wpOp hi hS ⟨λ_=>hS,H⟩
  ·have:=ready_mono hj hji;rw[H.1]at this
   cases this
 | succ n ih =>
  intro L a w hch hfree hr hy hS H
  refine⟨λh=>(by rw[h]at hr;cases hr),λj hj=>?_⟩
  by_cases hji:j=i
  ·subst hji;exact hy.wpOp hi hS ⟨λ_=>hS,H⟩
  ·have h1:=H.2 j (ready_mono hj hji);obtain⟨Kr,oj,MW,hall⟩:=mem_ready.1 hj;have hun:=(mem_ready.1 hr).1;have Ba:=Dh (j:=j) hall hun;have hjl:j≠last:=EP hj c i hch hun;have h2:=wpOp_putIf MW (hfree j oj MW hji Kr Ba) (λcs b=>hsel i oi cs b hi) (λcs b=>hsel j oj cs b MW) hQ hy h1
   have Dj:∀k ok,ops[k]? = some ok->k≠i->(L.setIfInBounds j true).getD k true=false →
     (∀e∈ok.after,Region.binds md e=true->e.on≠i)->oi.apart ops ok=true:=λk ok hk hki hun hno=>by
    refine hfree k ok hk hki ?_ hno
    by_cases hjk:j=k
    ·subst hjk;exact Kr
    ·rw[getD_set_ne true hjk]at hun;exact hun
   refine wpOp_mono (λa' w' h3=>⟨h3.2.1,ih (L.setIfInBounds j true) a' w' (ER hj c i hch hun) Dj (ready_mono hr (Ne.symm hji)) h3.1 (h3.2.1 hjl) ?_⟩) h2;rw[Array.setIfInBounds_comm _ _ hji];exact h3.2.2
theorem ij(c:List Nat){i:Nat}{oi:Oper}{v:Value}{n:Nat}{L:Array Bool}{a:Act}{w:World}(hi:ops[i]? = some oi)
  (hs:Region.noSelect ops=true) (hf:Region.free md ops L i=true) (hr:(Region.ready md ops L).contains i=true) (hl:(i != last&&NZ md ops last L i c)=true)
  (hQ:∀c a w,Q (.panic c) (a.put oi.dst v) w->Q (.panic c) a w) (hy:YieldsIf P ops S oi v a) (hS:S w)
  (h:j5 P md ops Q S last n (L.setIfInBounds i true) (a.put oi.dst v) w):j5 P md ops Q S last (n+1) L a w:=by
 rw[Bool.and_eq_true]at hl
 exact Dp c hi (Region.noSelect_spec hs) hQ (by simpa using hl.1) n L a w (KE c i hl.2) (Region.free_spec hi hf) (by simpa using hr) hy hS h
end
end Go.aN
namespace Go.aN
open Go.RowKit
theorem uG{P:Program}{w:World}{o:Oper}{a:Act}{K:Act->World->Prop}{Q:Exit->Act->World->Prop}{ops:Array Oper}{E:Prop}(base:Nat)(n1:Nat)(hgd:o.guard=none)(s x:Operand)(t e:TypeId)
  (ho:o.op = .call { callee:=.builtin .append,args:=#[s,x],argTypes:=#[t,t] })
  (ht:P.underlying t=some (.slice e)) (z:Value) (size bytes:Nat) (hinfo:(P.info? e).map (λi=>(i.zero,i.size,i.bytes))=some (some z,size,bytes)) (hzs:z.cells.size=size) (hsz:0<size) (hby:bytes<=128)
  (v:Value) (n:Nat) (xs:List Value) (hs:a.eval s=v) (hbase:base<=w.heap.size) (hown:w.ownsRow base e size v n xs)
  (us:List Value) (Vd:us.length=size) (h1:∀u∈us,u.oneCell'=true) (g:Nat) (hcell:∀j u,us[j]? = some u->w.cell? (Addr.add ⟨g,0,none⟩ j)=some u) (hx:a.eval x = .slice (some ⟨g,0,none⟩) 1 1) (Sf:n+1=n1) (hn:n<=1000000000000)
  (h:∀A' c' w',Hid (w'.ownsRow base e size (.slice A' n1 c') n1 (xs++us))->Hid (w.grownBy w' v.ownBlock)->Hid ((Value.slice A' n1 c').ownBlock=v.ownBlock\/∃g,(Value.slice A' n1 c').ownBlock=some g/\w.heap.size<=g/\g<w'.heap.size)->K (a.put o.dst (.slice A' n1 c')) w') :
  if Region.wanted o (yielded ops a.tmps)=true then Oper.wp P o a w K Q else E:=by
 subst Sf
 have hw:Region.wanted o (yielded ops a.tmps)=true:=by simp[Region.wanted,hgd]
 rw[if_pos hw]
 obtain⟨i,hi,hz0,hz1,jc⟩:=info_parts hinfo
 obtain⟨v',w',h0,g1,g2,_,g4⟩:=run_append_own_at (P:=P) w base t o.type e i z size bytes ht hi hz0 hz1 jc hzs hsz v n xs hown ⟨g,0,none⟩ 1 1 us (by rw[Vd,Nat.one_mul]) hcell h1 (by unfold maxLen;omega)
  (by have:(n+1)*bytes<=1000000000001*128:=Nat.mul_le_mul zo hby;omega) hbase
 obtain⟨A',c',rfl,-,-⟩:=cO g1
 unfold Oper.wp execOp
 simp only[ho,resolve,invoke,builtin,Sem.run_bind,Sem.run_pure,Result.andThen_ok,List.map_toArray,List.map_cons,List.map_nil,hs,hx,h0]
 refine h _ _ _ g1 g2 (show _\/_ from ?_)
 rcases g4 with g4 | g4
 ·exact .inl g4
 ·exact .inr ⟨_,g4,Nat.le_refl _,(g1.lt _ g4).2⟩
theorem Bl{w:World}{g:Nat}{us:List Value}{t:TypeId}(h:aF w g us.toArray t):∀j u,us[j]? = some u->w.cell? (Addr.add ⟨g,0,none⟩ j)=some u:=λj u hu=>by
 have e:(Addr.add ⟨g,0,none⟩ j)=⟨g,j,none⟩:=by unfold Addr.add;split <;> simp_all
 rw[e];exact h.cell j u (by simpa using hu)
theorem bI.cells{w:World}{B n:Nat}{b off:Nat}{bs:List UInt8}(h:bI w B (some ⟨b,off,none⟩) n bs):∀j v,(fE bs)[j]? = some v->w.cell? ((⟨b,off,none⟩:Addr).add j)=some v:=by
 intro j v hv
 have hj:j<bs.length:=by have:=(List.getElem?_eq_some_iff.1 hv).1;rwa [iU]at this
 obtain⟨b',off',e',-,hc⟩:=h.at_ (by have:=h.len;omega)
 obtain⟨rfl,rfl⟩:b=b'/\off=off':=by injection e' with e';injection e' with e1 e2;exact⟨e1,e2⟩
 have e:(Addr.add ⟨b,off,none⟩ j)=⟨b,off+j,none⟩:=by unfold Addr.add;split <;> simp_all
 rw[e,hc j (by have:=h.len;omega),← hv,oF bs j hj]
end Go.aN
namespace Go.aN
open Go.Joins Go.ChangeShapes Go.WideShapes Go.RowKit Go.Deep
def M9(w:World)(B:Nat)(ks:List IntKind)(v:Value)(rs:List (List Int)):Prop :=
 ∃A c,v = .slice A rs.length c/\rs.length<=c/\c<=9223372036854775807/\(0<rs.length->∃b off,A=some ⟨b,off,none⟩/\b<B ∧
  ∀(i:Nat) (r:List Int),rs[i]? = some r->∀(j:Nat) (k:IntKind) (z:Int),ks[j]? = some k->r[j]? = some z->w.cell? ⟨b,off+(i*ks.length+j),none⟩=some (Value.int k z))
section
variable {w w':World}{B:Nat}{ks:List IntKind}{v:Value}{rs:List (List Int)}
theorem M9.keep(h:M9 w B ks v rs)(hk:∀p:Addr,p.block<B->w'.cell? p=w.cell? p):M9 w' B ks v rs:=by
 obtain⟨A,c,e,h1,h2,h3⟩:=h;refine⟨A,c,e,h1,h2,λhn=>?_⟩;obtain⟨b,off,e2,hb,hc⟩:=h3 hn;exact⟨b,off,e2,hb,λi r hr j k z h4 h5=>(hk ⟨b,_,none⟩ hb).trans (hc i r hr j k z h4 h5)⟩
theorem M9.below(h:M9 w B ks v rs)(hb:Below B w w'):M9 w' B ks v rs:=h.keep λ_ hp=>hb.cell hp
theorem M9.len(h:M9 w B ks v rs):∃A c,v = .slice A rs.length c/\rs.length<=c/\c<=9223372036854775807:=by
 obtain⟨A,c,e,h1,h2,_⟩:=h;exact⟨A,c,e,h1,h2⟩
theorem M9.at_(h:M9 w B ks v rs){i:Nat}{r:List Int}(hr:rs[i]? = some r):∃b off c,v = .slice (some ⟨b,off,none⟩) rs.length c/\rs.length<=c/\c<=9223372036854775807/\b<B ∧
  ∀(j:Nat) (k:IntKind) (z:Int),ks[j]? = some k->r[j]? = some z->w.cell? ⟨b,off+(i*ks.length+j),none⟩=some (Value.int k z):=by
 obtain⟨A,c,rfl,h1,h2,h3⟩:=h
 obtain⟨b,off,rfl,hb,hc⟩:=h3 (by have:=(List.getElem?_eq_some_iff.1 hr).1;omega)
 exact⟨b,off,c,rfl,h1,h2,hb,hc i r hr⟩
end
section
variable {H:Type}{enc:TypeId×Value->H}{P:Program}{w:World}{base:Nat}{spare:Nat->Bool}{held:Bool}
end
end Go.aN
namespace Go.aN
open Go.ChangeShapes Go.WideShapes Go.RowKit
section
variable {H:Type}{enc:TypeId×Value->H}{P:Program}{w:World}{base:Nat}{spare:Nat->Bool}{held:Bool}
end
end Go.aN
namespace Go.aN
open Go.ChangeShapes Go.WideShapes Go.RowKit
section
variable {H:Type}{enc:TypeId×Value->H}{P:Program}{w:World}{base:Nat}{spare:Nat->Bool}{held:Bool}
end
end Go.aN
namespace Go.aN
open Go.ChangeShapes Go.WideShapes Go.ChangeAt Go.RowKit
theorem zO{H:Type}{enc:TypeId×Value->H}{a:Assume}{C:Checked}{os:Os}{f:FuncId}{fn:Func}{s:ChangeSpec}{conds:List PathCond}{apart fresh handsOn again:Bool}{X:World->Array Value->Prop}
  (hX:∀(w w':World) (args:Array Value),w.heap=w'.heap->X w args->X w' args)
  (own:ownKnob C.prog.godebug=none) (started:os.Started) (noInit:C.prog.inits.idxOf? f=none) (hfn:C.prog.funcs[f]? = some fn)
  (witness:∃(w:World) (tape:Tape) (i:Input),w.os=os/\(w.forCall tape i).Shaped C.prog/\i.vars=[]/\Input.okWide C.prog (w.forCall tape i) .any w.heap.size f i ∧
   ((s.pre enc C.prog fn conds apart (w.forCall tape i).memory i.args/\X (w.forCall tape i).memory i.args)/\sizedMet enc C.prog fn (OpenSpec.ofChange s) apart (w.forCall tape i).memory i.args)/\a.holds C.prog (lone (Frame.enter C.prog f i.args .normal) [] (w.forCall tape i)))
  (contract:∀(W:World) (base:Nat) (args:Array Value) (ds gs:List (DataW H)) (before:List MemPlace),
   (∀(j:Nat) t v,fn.params[j]? = some t->args[j]? = some v->Value.okWide C.prog W .any base t v) →
   DataW.Whole enc C.prog fn.params.toList s.vars apart W args.toList ds gs before →
   conds.all (PathCond.test C.prog ⟨fn.params.toList,ds,s.plain.varTypes C.prog,gs⟩)=true →
   (DataW.weightsEach C.prog (fn.params.toList++s.plain.varTypes C.prog) (ds++gs)).all (·<=reachBytes)=true->X W args->W.ShapedOpen C.prog →
   Calls C.prog f args W λe W'=>∃v,e = .returned v/\s.post enc C.prog fn apart fresh handsOn again W args v W') :
  ReturnsInHanded a C os f .any (λw args=>(s.pre enc C.prog fn conds apart w args/\X w args)/\sizedMet enc C.prog fn (OpenSpec.ofChange s) apart w args) (s.post enc C.prog fn apart fresh handsOn again):=by
 refine returnsInHanded_of_calls own started noInit witness ?_
 intro w tape i _ hsh _ hok hpre _
 obtain⟨_,_,_,fn',XI,_,_,_,_,hval⟩:=hok
 have e:fn'=fn:=Option.some.inj (XI.symm.trans hfn)
 subst e
 obtain⟨⟨⟨ds,gs,before,hw,hc⟩,hx⟩,hz⟩:=hpre
 have hw':=DataW.Whole.of_heap (w':=w.forCall tape i) (by rfl) hw
 refine(contract (w.forCall tape i) w.heap.size i.args ds gs before hval hw' hc (hz.weights hw) (hX _ _ _ (by rfl) hx) hsh).mono λe W' ⟨v,he,hp⟩=>?_
 subst he
 exact ChangeSpec.post_blind hp
end Go.aN
