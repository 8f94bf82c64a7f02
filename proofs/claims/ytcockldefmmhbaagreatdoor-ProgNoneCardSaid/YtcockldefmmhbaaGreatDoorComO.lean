import Derived.Test.YtcockldefmmhbaaGreatDoorJ12
import Derived.Laws.AppendOwnNone
import Derived.Laws.OwnMore
set_option linter.unusedVariables false
namespace Go.Mtl
open Go.RowKit
section
variable {w w':World} {B n:Nat} {A:Option Addr} {bs:List UInt8}
theorem Bts.take (h:Bts w B A n bs) (m:Nat):Bts w B A (min n m) (bs.take m):=by
 have hl:=h.len
 refine ⟨by simp;omega,fun hn=>?_⟩
 obtain ⟨b,off,e,hb,hc⟩:=h.at_ (by omega)
 exact ⟨b,off,e,hb,fun j hj=>by rw [hc j (by omega),byt_take _ _ _ (by omega)]⟩
theorem Bts.front (h:Bts w B A n bs) (m:Nat) (hm:m<=n):Bts w B A m (bs.take m):=by
 have:=h.take m
 rwa [Nat.min_eq_right hm] at this
theorem bts_row (w:World) (g:Nat) (cs:Array Value) (t:TypeId) (bs:List UInt8) (h:w.heap[g]? = some (.cells cs t (0,0))) (hcs:cs=(bvs bs).toArray):Bts w w.heap.size (some ⟨g,0,none⟩) bs.length bs:=by
 refine ⟨rfl,fun hn=>⟨g,0,rfl,?_,fun j hj=>?_⟩⟩
 ·rcases Nat.lt_or_ge g w.heap.size with hlt | hge
  ·exact hlt
  ·rw [Array.getElem?_eq_none hge] at h;cases h
 ·rw [cell_of_row w g _ cs t (0,0) h,hcs,Nat.zero_add,List.getElem?_toArray,bvs_at bs j hj]
theorem own_below {base e size n:Nat} {v:Value} {xs:List Value} (h:w.ownsRow base e size v n xs) (hb:Below w.heap.size w w'):w'.ownsRow base e size v n xs :=
 h.kept (row:=none) ⟨hb.os,hb.tape,hb.output,hb.size,fun j hj _=>hb.block j hj⟩ (by cases hv:v.ownBlock <;> simp)
end
theorem wpList_append_bts {P:Program} {w:World} {ops:Array Oper} {rest:List Oper} {o:Oper} {a:Act} {Q:Exit->Act->World->Prop} (hgd:o.guard=none) (s x:Operand) (t:TypeId)
  (ho:o.op = .call { callee:=.builtin .append,args:=#[s,x],argTypes:=#[t,t] })
  (base:Nat) (e:TypeId) (i:TypeInfo) (ht:P.underlying t=some (.slice e)) (hi:P.info? e=some i) (hz:i.zero=some (.int .u8 0)) (hsize:i.size=1) (hby:i.bytes=1)
  (v:Value) (n:Nat) (xs:List UInt8) (hs:a.eval s=v) (hown:w.ownsRow base e 1 v n (bvs xs))
  (B:Nat) (A:Option Addr) (m c:Nat) (ys:List UInt8) (hx:a.eval x = .slice A m c) (hr:Bts w B A m ys) (hn:n+m<=1073741824) (hbase:base<=w.heap.size)
  (h:∀ A' c' w',w'.ownsRow base e 1 (.slice A' (n+m) c') (n+m) (bvs (xs ++ ys))->w.grownBy w' v.ownBlock->(n+m<=c'/\c'<=9223372036854775807)->wpList P ops Q rest (a.put o.dst (.slice A' (n+m) c')) w') :
  wpList P ops Q (o :: rest) a w:=by
 have fin:∀ v' w',w'.ownsRow base e 1 v' (n+m) (bvs (xs ++ ys))->w.grownBy w' v.ownBlock->wpList P ops Q rest (a.put o.dst v') w':=by
  intro v' w' h1 h2
  rcases h1.2 with ⟨h3,h4⟩ | ⟨g,cap,cur,rfl,_,_,h5,h6,_⟩
  ·subst h3
   have:=h none 0 w' (by rw [h4] at h1 ⊢;exact h1) h2 (by omega)
   rw [h4] at this
   exact this
  ·exact h _ _ w' h1 h2 ⟨h5,by unfold maxLen at h6;omega⟩
 rcases A with _ | ad
 ·have hm:m=0:=by
   rcases Nat.eq_zero_or_pos m with h0 | h0
   ·exact h0
   ·obtain ⟨_,_,h1,_⟩:=hr.at_ h0
    cases h1
  subst hm
  obtain rfl:ys=[]:=List.eq_nil_of_length_eq_zero hr.len
  have hrun:(Builtin.append_ #[t,t] o.type #[v,.slice none 0 c]).run P w = .ok v w:=by
   rcases hown.2 with ⟨rfl,rfl⟩ | ⟨g,cap,cur,rfl,_,_,hnc,_⟩
   ·simp [Builtin.append_,run_underlying ht,sizeOf,typeInfo,hi,Builtin.lenOf,Builtin.firstCells]
   ·simp [Builtin.append_,run_underlying ht,sizeOf,typeInfo,hi,Builtin.lenOf,Builtin.firstCells,hnc,storeCells]
  have hfin:=fin v w (by simpa using hown) (World.grownBy.refl w _)
  refine wpList_plain hgd fun K hK=>?_
  unfold Oper.wp
  simp [execOp,ho,resolve,invoke,builtin,hs,hx,hrun,Result.andThen]
  exact hK _ _ hfin
 ·refine wpList_append_own w hgd s x t ho base e i (.int .u8 0) 1 1 ht hi hz hsize hby rfl (by omega) v n (bvs xs) hs hown ad m c (bvs ys) hx (by rw [bvs_len,hr.len,Nat.mul_one]) ?_ ?_ (by unfold maxLen;omega) (by omega) hbase
   (fun v' w' h1 h2 _=>fin v' w' (by unfold bvs at h1 ⊢;rwa [List.map_append]) h2)
  ·intro j u hu
   have hj:j < ys.length:=by have:=(List.getElem?_eq_some_iff.1 hu).1;rwa [bvs_len] at this
   obtain ⟨b,off,h1,_,hc⟩:=hr.at_ (by have:=hr.len;omega)
   injection h1 with h1
   subst h1
   have e:(Addr.add ⟨b,off,none⟩ j)=⟨b,off+j,none⟩:=by unfold Addr.add;split <;> simp_all
   rw [e,hc j (by have:=hr.len;omega)]
   rw [bvs_at ys j hj] at hu
   exact hu
  ·intro u hu
   unfold bvs at hu
   obtain ⟨c,_,rfl⟩:=List.mem_map.1 hu
   rfl
end Go.Mtl
