/- Several texts of this proof in one file, each in its own namespace. -/
import Derived.Test.YtcockldefmmhbaaGreatDoorJ47
import Derived.Test.YtcockldefmmhbaaGreatDoorJ12
import Derived.Test.YtcockldefmmhbaaGreatDoorRulO
set_option linter.unusedVariables false
set_option linter.unusedSimpArgs false
set_option maxRecDepth 100000
namespace Go.Proofs.YtcockldefmmhbaaGreatDoor
open Go.ChangeShapes Go.WideShapes Go.ChangeAt Go.RowKit Go.Mtl Go.Lib
namespace Pg
open MemM (Ms)
open RulM (R)
open AutM (Ke)
open Me (ptr)
open Tb (TAt TM Fw)
structure Env (w:World):Prop where
 ga:Ga.Env w
 fl:Fl.Env w
theorem Env.below {w w':World} (h:Env w) (hb:Below w.heap.size w w'):Env w':=⟨h.ga.below hb (Nat.le_refl _),h.fl.below hb (Nat.le_refl _)⟩
def Lv (W:World) (K:Nat->Prop) (v:Value) (l:List R):Prop:=Rds W W.heap.size v l/\(0 < l.length->∀ g,v.ownBlock=some g->K g)/\∀ r ∈ l,r.Ok
def kcs (ks:List Ke):List Value:=ks.flatMap fun k=>[.int .u32 (k.a:Int),.int .u32 (k.b:Int),.int .u16 (k.p:Int),.int .u16 (k.q:Int),.int .u8 (k.r:Int)]
def Kv (W:World) (K:Nat->Prop) (v:Value) (ks:List Ke):Prop:=(∃ A c,v = .slice A ks.length c/\(ks.length<=c/\c<=9223372036854775807)/\(0 < ks.length->∃ g off,A=some ⟨g,off,none⟩/\K g/\g < W.heap.size/\∀ j u,(kcs ks)[j]? = some u->W.cell? ⟨g,off+j,none⟩=some u))/\∀ k ∈ ks,k.Ok
section
variable {W W':World} {O K K':Nat->Prop} {v:Value} {l:List R} {ks:List Ke}
theorem Lv.nil (W:World) (K:Nat->Prop):Lv W K (.slice none 0 0) []:=⟨⟨none,0,rfl,Nat.le_refl _,Nat.zero_le _,fun h=>absurd h (by simp)⟩,fun h=>absurd h (by simp),fun r h=>absurd h List.not_mem_nil⟩
theorem Lv.only (H:Lv W K v l) (h:Only O W W') (hd:∀ j,K j->¬ O j):Lv W' K v l:=by
 obtain ⟨⟨A,c,rfl,h1,h2,h3⟩,h4,h5⟩:=H
 refine ⟨⟨A,c,rfl,h1,h2,fun hn=>?_⟩,h4,h5⟩
 obtain ⟨b,off,rfl,hb,hc⟩:=h3 hn
 exact ⟨b,off,rfl,Nat.lt_of_lt_of_le hb h.size,fun j u hu=>(h.cell (p:=⟨b,off+j,none⟩) hb (hd _ (h4 hn b rfl))).trans (hc j u hu)⟩
theorem Lv.mono (H:Lv W K v l) (h:∀ j,K j->K' j):Lv W K' v l:=⟨H.1,fun hn g e=>h g (H.2.1 hn g e),H.2.2⟩
theorem Kv.nil (W:World) (K:Nat->Prop):Kv W K (.slice none 0 0) []:=⟨⟨none,0,rfl,⟨Nat.le_refl _,by omega⟩,fun h=>absurd h (by simp)⟩,fun r h=>absurd h List.not_mem_nil⟩
theorem Kv.only (H:Kv W K v ks) (h:Only O W W') (hd:∀ j,K j->¬ O j):Kv W' K v ks:=by
 obtain ⟨⟨A,c,rfl,hcb,h4⟩,h6⟩:=H
 refine ⟨⟨A,c,rfl,hcb,fun hn=>?_⟩,h6⟩
 obtain ⟨b,off,rfl,hk,hb,hc⟩:=h4 hn
 exact ⟨b,off,rfl,hk,Nat.lt_of_lt_of_le hb h.size,fun j u hu=>(h.cell (p:=⟨b,off+j,none⟩) hb (hd _ hk)).trans (hc j u hu)⟩
theorem Kv.mono (H:Kv W K v ks) (h:∀ j,K j->K' j):Kv W K' v ks:=by
 obtain ⟨⟨A,c,rfl,hcb,h4⟩,h6⟩:=H
 refine ⟨⟨A,c,rfl,hcb,fun hn=>?_⟩,h6⟩
 obtain ⟨b,off,rfl,hk,hb,hc⟩:=h4 hn
 exact ⟨b,off,rfl,h _ hk,hb,hc⟩
end
def RMap (W:World) (K:Nat->Prop) (M:Nat) (rl:Int->List R):Prop :=
 ∃ (es:Array MapEntry) (clock:Nat),W.heap[M]? = some (.map es clock)/\(∀ e ∈ es.toList,∃ i:Int,e.key = .int .i64 i/\Lv W K e.val (rl i))/\(es.toList.map (·.key)).Nodup/\∀ i:Int,(∀ e ∈ es.toList,e.key ≠ .int .i64 i)->rl i=[]
theorem RMap.lt {W:World} {K:Nat->Prop} {M:Nat} {rl:Int->List R} (H:RMap W K M rl):M < W.heap.size:=by
 obtain ⟨es,clock,h,_⟩:=H
 exact (Array.getElem?_eq_some_iff.1 h).1
theorem RMap.only {W W':World} {O K:Nat->Prop} {M:Nat} {rl:Int->List R} (H:RMap W K M rl) (h:Only O W W') (hM : ¬ O M) (hd:∀ j,K j->¬ O j):RMap W' K M rl:=by
 have hlt:=H.lt
 obtain ⟨es,clock,h0,h1,h2,h3⟩:=H
 refine ⟨es,clock,(h.block M hlt hM).trans h0,fun e he=>?_,h2,h3⟩
 obtain ⟨i,e1,e2⟩:=h1 e he
 exact ⟨i,e1,e2.only h hd⟩
theorem RMap.mono {W:World} {K K':Nat->Prop} {M:Nat} {rl:Int->List R} (H:RMap W K M rl) (h:∀ j,K j->K' j):RMap W K' M rl:=by
 obtain ⟨es,clock,h0,h1,h2,h3⟩:=H
 exact ⟨es,clock,h0,fun e he=>by obtain ⟨i,e1,e2⟩:=h1 e he;exact ⟨i,e1,e2.mono h⟩,h2,h3⟩
theorem rm_is:Tryz.prog.underlying 81=some (.map 3 25):=by kernel_rfl
theorem rm_zero (w:World):(zeroValue 25).run Tryz.prog w = .ok (.slice none 0 0) w:=by kernel_rfl
theorem int_check (n:Nat) (em:Bool) (x:Int) (w:World):(Instr.checkKey em (n+1) 3 (.int .i64 x)).run Tryz.prog w = .ok () w:=by
 rw [Instr.checkKey];simp only [Sem.run_bind,run_underlying Tryz.underlying3,Result.andThen_ok];rfl
theorem rm_find {W:World} {es:Array MapEntry} {K:Nat->Prop} {rl:Int->List R} (h1:∀ e ∈ es.toList,∃ i:Int,e.key = .int .i64 i/\Lv W K e.val (rl i)) (i:Int) (w:World) :
  ((Instr.findKey 3 (.int .i64 i) es.toList).run Tryz.prog w = .ok none w/\∀ e ∈ es.toList,e.key ≠ .int .i64 i) ∨
  ∃ j e,(Instr.findKey 3 (.int .i64 i) es.toList).run Tryz.prog w = .ok (some (j,e.val)) w/\es.toList[j]? = some e/\e.key = .int .i64 i:=by
 have hk:∀ x ∈ es.toList,MapKept.IsKey (.int .i64) x.key:=fun x hx=>by
  obtain ⟨i,e,_⟩:=h1 x hx
  rw [e];rfl
 rcases MapKept.findNow_spec (d:=.int .i64) (k:=.int .i64 i) rfl es.toList 0 hk with ⟨h,h2⟩ | ⟨j,e,h,h2,h3⟩
 ·exact .inl ⟨by simp only [Instr.findKey,Sem.run_bind,run_underlying Tryz.underlying3,Result.andThen_ok,h];rfl,h2⟩
 ·refine .inr ⟨j,e,?_,h2,h3⟩
  simp only [Instr.findKey,Sem.run_bind,run_underlying Tryz.underlying3,Result.andThen_ok,h,Nat.zero_add];rfl
theorem RMap.look {W:World} {K:Nat->Prop} {M:Nat} {rl:Int->List R} (H:RMap W K M rl) (i:Int) :
  ∃ v,(Instr.lookup 81 (.map (some M)) (.int .i64 i) false).run Tryz.prog W = .ok v W/\Lv W K v (rl i):=by
 obtain ⟨es,clock,h0,h1,h2,h3⟩:=H
 rcases rm_find h1 i W with ⟨h,hn⟩ | ⟨j,e,h,hj,he⟩
 ·refine ⟨.slice none 0 0,?_,by rw [h3 i hn];exact Lv.nil W K⟩
  simp only [Instr.lookup,Sem.run_bind,run_underlying rm_is,Result.andThen_ok,MapKept.run_getObj_map h0,int_check,h,rm_zero,Sem.run_pure,Bool.false_eq_true,if_false]
 ·obtain ⟨i',e1,e2⟩:=h1 e (List.mem_of_getElem? hj)
  rw [he] at e1
  injection e1 with _ e1
  subst e1
  refine ⟨e.val,?_,e2⟩
  simp only [Instr.lookup,Sem.run_bind,run_underlying rm_is,Result.andThen_ok,MapKept.run_getObj_map h0,int_check,h,Sem.run_pure,Bool.false_eq_true,if_false]
theorem int_stays (x:Int) (w:World):(Instr.keyThatStays (.int .i64 x) (.int .i64 x)).run Tryz.prog w = .ok (.int .i64 x) w:=by
 rw [Instr.keyThatStays,show Instr.sameBits 10000 (.int .i64 x) (.int .i64 x)=true by simp [Instr.sameBits]];rfl
theorem only_block {w:World} {M:Nat} {es:Array MapEntry} {clock:Nat} (h:w.heap[M]? = some (.map es clock)) (o:Obj):Only (· = M) w (ChangeMaps.setBlock w M o) :=
 ⟨rfl,rfl,rfl,by simp [ChangeMaps.setBlock],fun k _ hk=>ChangeMaps.heap_setBlock_other h o hk⟩
theorem RMap.drop {W:World} {K:Nat->Prop} {M:Nat} {rl:Int->List R} (H:RMap W K M rl) (hK : ¬ K M) (i:Int) (ty:TypeId) :
  ∃ w',(Builtin.delete_ #[81,3] ty #[.map (some M),.int .i64 i]).run Tryz.prog W = .ok (.tuple #[]) w'/\RMap w' K M (setL rl i [])/\Only (· = M) W w':=by
 obtain ⟨es,clock,h0,h1,h2,h3⟩:=H
 rcases rm_find h1 i W with ⟨h,hn⟩ | ⟨j,e,h,hj,he⟩
 ·have ho:=only_block h0 (.map es clock)
  have e0:setL rl i []=rl:=by
   funext x;unfold setL;split
   ·rename_i e;subst e;exact (h3 _ hn).symm
   ·rfl
  refine ⟨_,?_,⟨es,clock,ChangeMaps.heap_setBlock_same h0 _,?_,h2,?_⟩,ho⟩
  ·simp only [Builtin.delete_,List.getElem?_toArray,List.getElem?_cons_zero,List.getElem?_cons_succ,Sem.run_bind,run_underlying rm_is,Result.andThen_ok,MapKept.run_getObj_map h0,int_check,h,MapKept.run_setObj_map _ h0,Sem.run_pure]
   rfl
  ·rw [e0]
   intro e he
   obtain ⟨i',a1,a2⟩:=h1 e he
   exact ⟨i',a1,a2.only ho fun k hk e=>hK (e ▸ hk)⟩
  ·rw [e0];exact h3
 ·have hlt:j < es.size:=by have:=(List.getElem?_eq_some_iff.1 hj).1;simpa using this
  have ho:=only_block h0 (.map (es.eraseIdxIfInBounds j) clock)
  have e1:(es.eraseIdxIfInBounds j).toList=es.toList.eraseIdx j:=by
   rw [Array.eraseIdxIfInBounds,dif_pos hlt];simp
  have hoff:∀ x ∈ es.toList.eraseIdx j,x.key ≠ .int .i64 i:=by
   intro x hx hk
   obtain ⟨m,hm,hx2⟩:=List.mem_eraseIdx_iff_getElem?.1 hx
   have a1:(es.toList.map (·.key))[m]? = some (.int .i64 i):=by rw [List.getElem?_map,hx2];simp [hk]
   have a2:(es.toList.map (·.key))[j]? = some (.int .i64 i):=by rw [List.getElem?_map,hj];simp [he]
   obtain ⟨b1,c1⟩:=List.getElem?_eq_some_iff.1 a1
   obtain ⟨b2,c2⟩:=List.getElem?_eq_some_iff.1 a2
   exact hm ((List.getElem_inj (h₀:=b1) (h₁:=b2) h2).1 (c1.trans c2.symm))
  refine ⟨_,?_,⟨es.eraseIdxIfInBounds j,clock,ChangeMaps.heap_setBlock_same h0 _,?_,?_,?_⟩,ho⟩
  ·simp only [Builtin.delete_,List.getElem?_toArray,List.getElem?_cons_zero,List.getElem?_cons_succ,Sem.run_bind,run_underlying rm_is,Result.andThen_ok,MapKept.run_getObj_map h0,int_check,h,MapKept.run_setObj_map _ h0,Sem.run_pure]
   rfl
  ·intro x hx
   rw [e1] at hx
   obtain ⟨i',a1,a2⟩:=h1 x (List.mem_of_mem_eraseIdx hx)
   refine ⟨i',a1,?_⟩
   have:setL rl i [] i'=rl i':=by
    unfold setL;rw [if_neg];intro e;subst e;exact hoff x hx a1
   rw [this]
   exact a2.only ho fun k hk e=>hK (e ▸ hk)
  ·rw [e1,List.eraseIdx_eq_take_drop_succ,List.map_append,List.map_take,List.map_drop,← List.eraseIdx_eq_take_drop_succ]
   exact h2.eraseIdx _
  ·intro x hx
   unfold setL
   split
   ·rfl
   ·rename_i hne
    refine h3 x fun y hy hk=>?_
    obtain ⟨m,hm⟩:=List.mem_iff_getElem?.1 hy
    refine hx y ?_ hk
    rw [e1]
    refine List.mem_eraseIdx_iff_getElem?.2 ⟨m,fun e=>?_,hm⟩
    subst e
    rw [hj] at hm
    obtain rfl:=Option.some.inj hm
    rw [he] at hk
    injection hk with _ hk
    exact hne hk.symm
theorem RMap.put {W:World} {K:Nat->Prop} {M:Nat} {rl:Int->List R} (H:RMap W K M rl) (hK : ¬ K M) (i:Int) {v:Value} {l:List R} (hv:Lv W K v l) :
  ∃ w',(Instr.mapUpdate 81 (.map (some M)) (.int .i64 i) v).run Tryz.prog W = .ok () w'/\RMap w' K M (setL rl i l)/\Only (· = M) W w':=by
 obtain ⟨es,clock,h0,h1,h2,h3⟩:=H
 have hat:setL rl i l i=l:=by unfold setL;rw [if_pos rfl]
 rcases rm_find h1 i W with ⟨h,hn⟩ | ⟨j,e,h,hj,he⟩
 ·have ho:=only_block h0 (.map (es.push { key:=.int .i64 i,val:=v,born:=clock }) (clock+1))
  refine ⟨_,?_,⟨es.push { key:=.int .i64 i,val:=v,born:=clock },clock+1,ChangeMaps.heap_setBlock_same h0 _,?_,?_,?_⟩,ho⟩
  ·simp only [Instr.mapUpdate,Sem.run_bind,run_underlying rm_is,Result.andThen_ok,MapKept.run_getObj_map h0,int_check,h,MapKept.run_setObj_map _ h0]
   rfl
  ·intro x hx
   simp only [Array.toList_push,List.mem_append,List.mem_singleton] at hx
   rcases hx with hx | rfl
   ·obtain ⟨i',a1,a2⟩:=h1 x hx
    refine ⟨i',a1,?_⟩
    have:setL rl i l i'=rl i':=by
     unfold setL;rw [if_neg];intro e;subst e;exact hn x hx a1
    rw [this]
    exact a2.only ho fun k hk e=>hK (e ▸ hk)
   ·exact ⟨i,rfl,by rw [hat];exact hv.only ho fun k hk e=>hK (e ▸ hk)⟩
  ·simp only [Array.toList_push,List.map_append,List.map_cons,List.map_nil]
   rw [List.nodup_append]
   refine ⟨h2,by simp,fun a ha b hb e=>?_⟩
   obtain ⟨x,hx,rfl⟩:=List.mem_map.1 ha
   simp at hb
   exact hn x hx (e.trans hb)
  ·intro x hx
   have hne:x≠i:=fun e=>hx { key:=.int .i64 i,val:=v,born:=clock } (by simp) (by rw [e])
   unfold setL;rw [if_neg hne]
   exact h3 x fun y hy=>hx y (by simp only [Array.toList_push,List.mem_append];exact .inl hy)
 ·have hlt:j < es.size:=by have:=(List.getElem?_eq_some_iff.1 hj).1;simpa using this
  have ho:=only_block h0 (.map (es.modify j fun e=>{ e with key:=.int .i64 i,val:=v }) clock)
  have e1:(es.modify j fun e=>{ e with key:=.int .i64 i,val:=v }).toList=es.toList.modify j fun e=>{ e with key:=.int .i64 i,val:=v }:=by simp
  have hkey:(es[j]?).map (·.key)=some (.int .i64 i):=by
   have:es[j]? = some e:=by simpa using hj
   rw [this];simp [he]
  have hkeys:(es.toList.modify j fun e=>{ e with key:=.int .i64 i,val:=v }).map (·.key)=es.toList.map (·.key):=by
   apply List.ext_getElem?
   intro m
   simp only [List.getElem?_map,List.getElem?_modify]
   by_cases e:j=m
   ·subst e;rw [hj];simp [he]
   ·simp [e]
  refine ⟨_,?_,⟨es.modify j fun e=>{ e with key:=.int .i64 i,val:=v },clock,ChangeMaps.heap_setBlock_same h0 _,?_,?_,?_⟩,ho⟩
  ·simp only [Instr.mapUpdate,Sem.run_bind,run_underlying rm_is,Result.andThen_ok,MapKept.run_getObj_map h0,int_check,h,hkey,Option.getD_some,int_stays,MapKept.run_setObj_map _ h0]
   rfl
  ·intro x hx
   rw [e1] at hx
   obtain ⟨m,hm⟩:=List.mem_iff_getElem?.1 hx
   rw [List.getElem?_modify] at hm
   cases hq:es.toList[m]? with
   | none=>simp [hq] at hm
   | some y =>
    rw [hq] at hm
    simp only [Option.map_eq_map,Option.map_some,Option.some.injEq] at hm
    by_cases e:j=m
    ·subst e
     rw [if_pos rfl] at hm
     subst hm
     exact ⟨i,rfl,by rw [hat];exact hv.only ho fun k hk e=>hK (e ▸ hk)⟩
    ·rw [if_neg e] at hm
     subst hm
     obtain ⟨i',a1,a2⟩:=h1 y (List.mem_of_getElem? hq)
     refine ⟨i',a1,?_⟩
     have:setL rl i l i'=rl i':=by
      unfold setL;rw [if_neg];intro e2;subst e2
      have b1:(es.toList.map (·.key))[m]? = some (.int .i64 i'):=by rw [List.getElem?_map,hq];simp [a1]
      have b2:(es.toList.map (·.key))[j]? = some (.int .i64 i'):=by rw [List.getElem?_map,hj];simp [he]
      obtain ⟨c1,d1⟩:=List.getElem?_eq_some_iff.1 b1
      obtain ⟨c2,d2⟩:=List.getElem?_eq_some_iff.1 b2
      exact e ((List.getElem_inj (h₀:=c2) (h₁:=c1) h2).1 (d2.trans d1.symm))
     rw [this]
     exact a2.only ho fun k hk e=>hK (e ▸ hk)
  ·rw [e1,hkeys];exact h2
  ·intro x hx
   have hx':∀ y ∈ es.toList,y.key ≠ .int .i64 x:=fun y hy hk=>by
    have:y.key ∈ (es.toList.modify j fun e=>{ e with key:=.int .i64 i,val:=v }).map (·.key):=by rw [hkeys];exact List.mem_map.2 ⟨y,hy,rfl⟩
    obtain ⟨z,hz,hz2⟩:=List.mem_map.1 this
    exact hx z (by rw [e1];exact hz) (hz2.trans hk)
   have hne:x≠i:=fun e=>hx' _ (List.mem_of_getElem? hj) (by rw [e];exact he)
   unfold setL;rw [if_neg hne]
   exact h3 x hx'
end Pg
end Go.Proofs.YtcockldefmmhbaaGreatDoor
set_option linter.unusedVariables false
set_option linter.unusedSimpArgs false
set_option maxRecDepth 100000
namespace Go.Proofs.YtcockldefmmhbaaGreatDoor
open Go.ChangeShapes Go.WideShapes Go.ChangeAt Go.RowKit Go.Mtl Go.Lib
namespace Pg
open MemM (Ms)
open RulM (R)
open AutM (Ke)
open Me (ptr)
open Tb (TAt TM Fw)
abbrev shc (C:Cf) (mb tb rm:Nat) (pv:Value):Array Value :=
 #[.int .i64 (C.n:Int),.int .i64 C.N,.int .i64 (C.T 0),.int .i64 (C.T 1),.int .i64 (C.T 2),.int .i64 (C.T 3),.int .i64 (C.T 4),.int .i64 (C.T 5),.int .i64 (C.T 6),.int .i64 (C.T 7),.int .i64 (C.T 8),.int .i64 (C.T 9),.int .i64 (C.T 10),.int .i64 (C.T 11),.int .i64 (C.T 12),.int .i64 (C.T 13),.int .i64 (C.T 14),.int .i64 (C.T 15),
  ptr mb,ptr tb,.map (some rm),pv]
def fid:At->Nat
 | .find=>70
 | .release=>108
 | .load=>152
 | .judge=>206
 | .advance=>259
 | .sure=>258
 | .look=>256
 | .again=>67
 | .over=>105
 | .kill=>115
 | .less=>171
 | .leave=>223
 | .absent=>106
 | .enter=>148
 | .unlock=>202
 | .malformed=>64
 | .count=>99
 | .add=>142
 | .readClock=>38
 | .tick=>72
 | .claim=>75
 | .prepare=>114
 | .publish=>167
 | .disclaim=>164
 | .stat=>79
 | .take=>78
 | .visit=>76
 | .inspect=>116
 | .finish=>172
 | .endOp=>80
 | .done=>0
abbrev fnV (n:Nat):Value:=.func (.func n) #[] #[]
def nextV (a:At):Value:=match a with
 | .done=>.nilFunc
 | a=>fnV (fid a)
def retryV (q:Nat):Value:=if q=1 then fnV 67 else if sweeps q then fnV 76 else .nilFunc
def goneV (q:Nat):Value:=if q=1 then fnV 68 else if sweeps q then fnV 77 else .nilFunc
abbrev rnc (B:Nat) (r:Rn) (lv kv:Value):Array Value :=
 #[ptr B,.int .i64 r.t,.int .i64 r.op,nextV r.at_,.int .i64 r.mu,.bool r.cal,.bool r.en,.int .i64 r.e,.int .i64 r.v,.int .i64 r.n,.int .i64 r.z,lv,
  .int .u8 (r.p.pr:Int),.int .u32 (r.p.sr:Int),.int .u32 (r.p.ds:Int),.int .u16 (r.p.sp:Int),.int .u16 (r.p.dp:Int),.int .u8 (r.p.fl:Int),.int .u8 (r.p.kd:Int),.bool r.dn,.bool (r.q == 4),retryV r.q,goneV r.q,
  .int .i64 (r.st:Int),kv,.int .u32 (r.k.a:Int),.int .u32 (r.k.b:Int),.int .u16 (r.k.p:Int),.int .u16 (r.k.q:Int),.int .u8 (r.k.r:Int),.int .i64 r.x,.bool r.tu,.int .i64 r.tn,.int .i64 (r.mr:Int),.int .u64 r.wf,.int .u64 r.wg,.int .u64 r.wc]
abbrev ptc (p:Pt):List Value:=[.int .i64 p.kd,.int .i64 p.t,.int .i64 p.op,.int .u32 (p.k.a:Int),.int .u32 (p.k.b:Int),.int .u16 (p.k.p:Int),.int .u16 (p.k.q:Int),.int .u8 (p.k.r:Int),.int .i64 p.v,.int .i64 p.n]
def pcs (ps:List Pt):List Value:=ps.flatMap ptc
theorem pcs_add (ps:List Pt) (p:Pt):pcs (ps ++ [p])=pcs ps ++ ptc p:=by unfold pcs;rw [List.flatMap_append];simp
def Own (Om Ot:Nat->Prop) (B rm:Nat) (pv:Value) (j:Nat):Prop:=Om j\/Ot j\/j=B\/j=rm\/pv.ownBlock=some j
structure Bs where
 w0:World
 C:Cf
 B:Nat
 mb:Nat
 tb:Nat
 rm:Nat
 g:Nat
 W:World
 O:Nat->Prop
 K:Nat->Prop
structure YR (b:Bs) (Om Ot K:Nat->Prop) (pv lv kv:Value) (S:Sh) (r:Rn) (W:World):Prop where
 mem:Me.MAt W Om b.mb S.ms
 tab:TAt W Ot b.tb b.mb b.C.n S.fs
 blk:Blk W b.B (shc b.C b.mb b.tb b.rm pv) 83
 map:RMap W K b.rm S.rl
 pts:W.ownsRow b.w0.heap.size 89 10 pv S.pts.length (pcs S.pts)
 run:Blk W b.g (rnc b.B r lv kv) 97
 lis:Lv W K lv r.li
 kes:Kv W K kv r.ks
 bel:Below b.w0.heap.size b.w0 W
 nm:∀ j,Om j->b.w0.heap.size<=j
 nt:∀ j,Ot j->b.w0.heap.size<=j
 nb:b.w0.heap.size<=b.B
 nr:b.w0.heap.size<=b.rm
 ng:b.w0.heap.size<=b.g
 dmt:∀ j,Om j->¬ Ot j
 dm : ¬ Om b.B/\¬ Om b.rm
 dt : ¬ Ot b.B/\¬ Ot b.rm
 br:b.B≠b.rm
 dp:∀ j,pv.ownBlock=some j->¬ Om j/\¬ Ot j/\j≠b.B/\j≠b.rm
 dg : ¬ Own Om Ot b.B b.rm pv b.g
 dk:∀ j,K j->¬ Own Om Ot b.B b.rm pv j/\j≠b.g/\j < W.heap.size
 onl:Only (fun j=>b.O j\/j=b.g) b.W W
 og:∀ j,Own Om Ot b.B b.rm pv j->b.O j\/b.W.heap.size<=j
 kg:∀ j,b.K j->K j
 kn:∀ j,K j->b.K j\/b.W.heap.size<=j
section
variable {b:Bs} {W w':World} {Om Ot K Om':Nat->Prop} {pv lv kv pv' lv' kv':Value} {S S':Sh} {r r':Rn}
theorem YR.lt (H:YR b Om Ot K pv lv kv S r W) {j:Nat} (hj:Own Om Ot b.B b.rm pv j):j < W.heap.size:=by
 rcases hj with h | h | rfl | rfl | h
 ·exact H.mem.lt j h
 ·exact H.tab.lt_ j h
 ·exact H.blk.lt
 ·exact H.map.lt
 ·exact (H.pts.lt j h).2
theorem YR.step (H:YR b Om Ot K pv lv kv S r W) {P:Nat->Prop} (ho:Only P W w') (hP:∀ j,P j->Own Om Ot b.B b.rm pv j\/j=b.g)
  (mem:Me.MAt w' Om' b.mb S'.ms) (tab:TAt w' Ot b.tb b.mb b.C.n S'.fs) (blk:Blk w' b.B (shc b.C b.mb b.tb b.rm pv') 83) (map:RMap w' K b.rm S'.rl)
  (pts:w'.ownsRow b.w0.heap.size 89 10 pv' S'.pts.length (pcs S'.pts)) (run:Blk w' b.g (rnc b.B r' lv' kv') 97) (lis:Lv w' K lv' r'.li) (kes:Kv w' K kv' r'.ks)
  (hOm:∀ j,Om' j->Om j\/W.heap.size<=j) (hd:∀ j,Om' j->¬ Ot j) (hpv:∀ j,pv'.ownBlock=some j->¬ Om' j/\(pv.ownBlock=some j\/W.heap.size<=j)):YR b Om' Ot K pv' lv' kv' S' r' w':=by
 have hgl:=H.run.lt
 have old:∀ j,Own Om' Ot b.B b.rm pv' j->Own Om Ot b.B b.rm pv j\/W.heap.size<=j:=fun j hj=>by
  rcases hj with h | h | h | h | h
  ·exact (hOm j h).imp .inl id
  ·exact .inl (.inr (.inl h))
  ·exact .inl (.inr (.inr (.inl h)))
  ·exact .inl (.inr (.inr (.inr (.inl h))))
  ·exact (hpv j h).2.imp (fun h=>.inr (.inr (.inr (.inr h)))) id
 exact
 {mem:=mem,tab:=tab,blk:=blk,map:=map,pts:=pts,run:=run,lis:=lis,kes:=kes
  bel:=H.bel.trans (ho.below (fun j hj=>(hP j hj).elim (fun h=>by
   rcases h with h | h | rfl | rfl | h
   ·exact H.nm j h
   ·exact H.nt j h
   ·exact H.nb
   ·exact H.nr
   ·exact (H.pts.lt j h).1) (fun h=>h ▸ H.ng)) H.bel.size)
  nm:=fun j hj=>(hOm j hj).elim (H.nm j) fun h=>Nat.le_trans H.bel.size h
  nt:=H.nt,nb:=H.nb,nr:=H.nr,ng:=H.ng,dmt:=hd
  dm:=⟨fun h=>(hOm _ h).elim H.dm.1 fun h=>by have:=H.blk.lt;omega,fun h=>(hOm _ h).elim H.dm.2 fun h=>by have:=H.map.lt;omega⟩
  dt:=H.dt,br:=H.br
  dp:=fun j hj=>by
   refine ⟨(hpv j hj).1,?_⟩
   rcases (hpv j hj).2 with h | h
   ·exact (H.dp j h).2
   ·exact ⟨fun e=>by have:=H.tab.lt_ j e;omega,fun e=>by have:=H.blk.lt;omega,fun e=>by have:=H.map.lt;omega⟩
  dg:=fun h=>(old _ h).elim H.dg fun h=>by omega
  dk:=fun j hj=>by
   obtain ⟨h1,h2,h3⟩:=H.dk j hj
   exact ⟨fun h=>(old _ h).elim h1 fun h=>by omega,h2,Nat.lt_of_lt_of_le h3 ho.size⟩
  onl:=H.onl.trans ho fun j hj=>(hP j hj).elim (fun h=>(H.og j h).imp .inl id) fun h=>.inl (.inr h)
  og:=fun j hj=>(old j hj).elim (H.og j) fun h=>.inr (Nat.le_trans H.onl.size h)
  kg:=H.kg,kn:=H.kn }
theorem YR.next (H:YR b Om Ot K pv lv kv S r W) (hb:Below W.heap.size W w'):YR b Om Ot K pv lv kv S r w' :=
 H.step (Only.of_below (O:=fun _=>False) hb) (fun _ e=>e.elim) (H.mem.next hb) (H.tab.next hb) (H.blk.next hb) (H.map.only (Only.of_below (O:=fun _=>False) hb) (fun e=>e) fun _ _ e=>e)
  (row_keep H.pts fun g e=>hb.block g (H.pts.lt g e).2) (H.run.next hb) (H.lis.only (Only.of_below (O:=fun _=>False) hb) fun _ _ e=>e) (H.kes.only (Only.of_below (O:=fun _=>False) hb) fun _ _ e=>e)
  (fun j h=>.inl h) H.dmt fun j h=>⟨(H.dp j h).1,.inl h⟩
theorem YR.turn (H:YR b Om Ot K pv lv kv S r W) (ho:Only (fun j=>Om j\/Ot j) W w') {ms':Ms} {fs':List TabM.Fl} (mem:Me.MAt w' Om' b.mb ms') (tab:TAt w' Ot b.tb b.mb b.C.n fs') (hOm:∀ j,Om' j->Om j\/W.heap.size<=j) (hd:∀ j,Om' j->¬ Ot j) :
  YR b Om' Ot K pv lv kv { S with ms:=ms',fs:=fs' } r w':=by
 have hK:∀ j,K j->¬ (Om j\/Ot j):=fun j hj e=>(H.dk j hj).1 (e.elim .inl fun h=>.inr (.inl h))
 exact H.step ho (fun j e=>.inl (e.elim .inl fun h=>.inr (.inl h))) mem tab (H.blk.only ho fun e=>e.elim H.dm.1 H.dt.1) (H.map.only ho (fun e=>e.elim H.dm.2 H.dt.2) hK)
  (row_keep H.pts fun g e=>ho.block g (H.pts.lt g e).2 fun h=>h.elim (H.dp g e).1 (H.dp g e).2.1) (H.run.only ho fun e=>H.dg (e.elim .inl fun h=>.inr (.inl h))) (H.lis.only ho hK) (H.kes.only ho hK)
  hOm hd fun j h=>⟨fun e=>(hOm j e).elim (H.dp j h).1 fun e=>by have:=(H.pts.lt j h).2;omega,.inl h⟩
theorem YR.set (H:YR b Om Ot K pv lv kv S r W) (i:Nat) (v:Value) (h:(rnc b.B r lv kv).setIfInBounds i v=rnc b.B r' lv' kv') (lis:Lv W K lv' r'.li) (kes:Kv W K kv' r'.ks):YR b Om Ot K pv lv' kv' S r' (W.setCell ⟨b.g,i,none⟩ v):=by
 have ho:Only (· = b.g) W (W.setCell ⟨b.g,i,none⟩ v):=(Only.refl (· = b.g) W).setCell (p:=⟨b.g,i,none⟩) (.inl rfl) v
 have hK:∀ j,K j->¬ (j=b.g):=fun j hj=>(H.dk j hj).2.1
 exact H.step ho (fun j e=>.inr e) (H.mem.far ho fun j hj e=>H.dg (.inl (e ▸ hj))) (H.tab.far ho fun j hj e=>H.dg (.inr (.inl (e ▸ hj)))) (H.blk.only ho fun e=>H.dg (.inr (.inr (.inl e.symm)))) (H.map.only ho (fun e=>H.dg (.inr (.inr (.inr (.inl e.symm))))) hK)
  (row_keep H.pts fun g e=>ho.block g (H.pts.lt g e).2 fun h=>H.dg (.inr (.inr (.inr (.inr (h ▸ e)))))) (H.run.set' i v h) (lis.only ho hK) (kes.only ho hK)
  (fun j h=>.inl h) H.dmt fun j h=>⟨(H.dp j h).1,.inl h⟩
theorem YR.points (H:YR b Om Ot K pv lv kv S r W) {w1:World} {ps:List Pt} (hg:Only (fun j=>pv.ownBlock=some j) W w1) (pts:w1.ownsRow b.w0.heap.size 89 10 pv' ps.length (pcs ps)) (hpv:∀ j,pv'.ownBlock=some j->pv.ownBlock=some j\/W.heap.size<=j) :
  YR b Om Ot K pv' lv kv { S with pts:=ps } r (w1.setCell ⟨b.B,21,none⟩ pv'):=by
 have ho:Only (fun j=>pv.ownBlock=some j\/j=b.B) W (w1.setCell ⟨b.B,21,none⟩ pv'):=(hg.mono fun j h=>.inl h).setCell (.inl (.inr rfl)) pv'
 have hK:∀ j,K j->¬ (pv.ownBlock=some j\/j=b.B):=fun j hj e=>(H.dk j hj).1 (e.elim (fun h=>.inr (.inr (.inr (.inr h)))) fun h=>.inr (.inr (.inl h)))
 have hb:Blk w1 b.B (shc b.C b.mb b.tb b.rm pv) 83:=H.blk.only hg fun e=>(H.dp _ e).2.2.1 rfl
 have hnB:∀ j,pv'.ownBlock=some j->j≠b.B:=fun j h e=>by
  rcases hpv j h with h | h
  ·exact (H.dp j h).2.2.1 e
  ·have:=H.blk.lt;omega
 exact H.step ho (fun j e=>.inl (e.elim (fun h=>.inr (.inr (.inr (.inr h)))) fun h=>.inr (.inr (.inl h)))) (H.mem.far ho fun j hj e=>e.elim (fun h=>(H.dp j h).1 hj) fun h=>H.dm.1 (h ▸ hj)) (H.tab.far ho fun j hj e=>e.elim (fun h=>(H.dp j h).2.1 hj) fun h=>H.dt.1 (h ▸ hj))
  (hb.set' 21 pv' rfl) (H.map.only ho (fun e=>e.elim (fun h=>(H.dp _ h).2.2.2 rfl) fun h=>H.br h.symm) hK) (row_keep pts fun g e=>Below.heap_setCell _ _ _ _ (hnB g e))
  (H.run.only ho fun e=>H.dg (e.elim (fun h=>.inr (.inr (.inr (.inr h)))) fun h=>.inr (.inr (.inl h)))) (H.lis.only ho hK) (H.kes.only ho hK)
  (fun j h=>.inl h) H.dmt fun j h=>⟨fun e=>(hpv j h).elim (fun h=>(H.dp j h).1 e) fun h=>by have:=H.mem.lt j e;omega,hpv j h⟩
theorem YR.rules (H:YR b Om Ot K pv lv kv S r W) (ho:Only (· = b.rm) W w') {rl:Int->List R} (map:RMap w' K b.rm rl):YR b Om Ot K pv lv kv { S with rl:=rl } r w':=by
 have hK:∀ j,K j->¬ (j=b.rm):=fun j hj e=>(H.dk j hj).1 (.inr (.inr (.inr (.inl e))))
 exact H.step ho (fun j e=>.inl (.inr (.inr (.inr (.inl e))))) (H.mem.far ho fun j hj e=>H.dm.2 (e ▸ hj)) (H.tab.far ho fun j hj e=>H.dt.2 (e ▸ hj)) (H.blk.only ho H.br) map
  (row_keep H.pts fun g e=>ho.block g (H.pts.lt g e).2 fun h=>(H.dp g e).2.2.2 h) (H.run.only ho fun e=>H.dg (.inr (.inr (.inr (.inl e))))) (H.lis.only ho hK) (H.kes.only ho hK) (fun j h=>.inl h) H.dmt fun j h=>⟨(H.dp j h).1,.inl h⟩
theorem YR.more (H:YR b Om Ot K pv lv kv S r W) (n:Nat) (hn:b.W.heap.size<=n) (hf:∀ j,Own Om Ot b.B b.rm pv j\/j=b.g->j < n\/n+1<=j) (hl:n < W.heap.size):YR b Om Ot (fun j=>K j\/j=n) pv lv kv S r W :=
 { H with
  map:=H.map.mono fun j h=>.inl h
  lis:=H.lis.mono fun j h=>.inl h
  kes:=H.kes.mono fun j h=>.inl h
  dk:=fun j hj=>hj.elim (H.dk j) fun e=>by
   subst e
   exact ⟨fun h=>by have:=hf j (.inl h);omega,fun h=>by have:=hf j (.inr h);omega,hl⟩
  kg:=fun j h=>.inl (H.kg j h)
  kn:=fun j h=>h.elim (H.kn j) fun e=>.inr (e ▸ hn) }
end
def Y (b:Bs) (S:Sh) (r:Rn) (W:World):Prop:=∃ Om Ot K pv lv kv,YR b Om Ot K pv lv kv S r W
section
variable {b:Bs} {W w':World} {S S':Sh} {r r':Rn}
theorem Y.next (H:Y b S r W) (hb:Below W.heap.size W w'):Y b S r w':=by
 obtain ⟨Om,Ot,K,pv,lv,kv,h⟩:=H
 exact ⟨Om,Ot,K,pv,lv,kv,h.next hb⟩
theorem Y.drew (H:Y b S r W):Y b S r W.drew:=H.next (Below.refl _ W).drew
theorem Y.alloc (H:Y b S r W) (o:Obj):Y b S r (W.alloc o):=H.next ((Below.refl _ W).alloc (Nat.le_refl _) o)
theorem Y.set (H:Y b S r W) (i:Nat) (v:Value) (h:∀ lv kv,(rnc b.B r lv kv).setIfInBounds i v=rnc b.B r' lv kv) (hl:r'.li=r.li) (hk:r'.ks=r.ks):Y b S r' (W.setCell ⟨b.g,i,none⟩ v):=by
 obtain ⟨Om,Ot,K,pv,lv,kv,H⟩:=H
 exact ⟨Om,Ot,K,pv,lv,kv,H.set i v (h lv kv) (hl ▸ H.lis) (hk ▸ H.kes)⟩
theorem Y.cell (H:Y b S r W) (i:Nat) (v:Value) (h:∀ lv kv,(rnc b.B r lv kv)[i]? = some v):W.cell? ⟨b.g,i,none⟩=some v:=by
 obtain ⟨Om,Ot,K,pv,lv,kv,H⟩:=H
 exact H.run.cell i v (h lv kv)
theorem Y.frozen (H:Y b S r W) (i:Nat):W.frozen? ⟨b.g,i,none⟩=false:=by
 obtain ⟨Om,Ot,K,pv,lv,kv,H⟩:=H
 exact H.run.frozen i
theorem Y.shared (H:Y b S r W) (i:Nat) (v:Value) (h:∀ pv,(shc b.C b.mb b.tb b.rm pv)[i]? = some v):W.cell? ⟨b.B,i,none⟩=some v:=by
 obtain ⟨Om,Ot,K,pv,lv,kv,H⟩:=H
 exact H.blk.cell i v (h pv)
theorem Y.env (H:Y b S r W) (he:Env b.w0):Env W:=by
 obtain ⟨Om,Ot,K,pv,lv,kv,H⟩:=H
 exact he.below H.bel
theorem Y.word (H:Y b S r W) (i:Int):W64 (MemM.lookV S.ms i):=by
 obtain ⟨Om,Ot,K,pv,lv,kv,H⟩:=H
 have h:=H.mem.2
 unfold MemM.lookV
 split
 ·rename_i hb
  obtain ⟨j,rfl,hj⟩:=MemM.has_yes hb
  exact h.wat hj
 ·exact ⟨by omega,by omega⟩
theorem Y.does (H:Y b S r W) {f:Nat} {args:Array Value} {v:Value} {ms':Ms} (h:∀ Om,Me.MAt W Om b.mb S.ms->Calls Tryz.prog f args W (Me.Does W Om b.mb v ms')):Calls Tryz.prog f args W fun e w'=>e = .returned v/\Y b { S with ms:=ms' } r w':=by
 obtain ⟨Om,Ot,K,pv,lv,kv,H⟩:=H
 refine (h Om H.mem).mono ?_
 rintro e w' ⟨O',h1,h2,h3,h4⟩
 exact ⟨h1,O',Ot,K,pv,lv,kv,H.turn (S:=S) (fs':=S.fs) (h3.mono fun j h=>.inl h) h2 (H.tab.far h3 fun j hb ha=>H.dmt j ha hb) h4 fun j hj hb=>(h4 j hj).elim (fun h=>H.dmt j h hb) fun h=>by have:=H.tab.lt_ j hb;omega⟩
def els (w0 W:World) (Om Ot:Nat->Prop):Fw:={ w0 with F:=fun j o=>W.heap[j]? = some o/\¬ Om j/\¬ Ot j,lo:=W.heap.size }
theorem YR.tm {Om Ot K:Nat->Prop} {pv lv kv:Value} (H:YR b Om Ot K pv lv kv S r W):TM (els b.w0 W Om Ot) Om Ot b.mb b.tb S.ms b.C.n S.fs W :=
 ⟨H.mem,H.tab,H.bel,H.nm,H.nt,H.dmt,fun j o h=>h.1,fun j o h=>h.2,Nat.le_refl _⟩
theorem YR.tm_done {Om Ot K Om':Nat->Prop} {pv lv kv:Value} {ms':Ms} {fs':List TabM.Fl} (H:YR b Om Ot K pv lv kv S r W) (T:TM (els b.w0 W Om Ot) Om' Ot b.mb b.tb ms' b.C.n fs' w'):YR b Om' Ot K pv lv kv { S with ms:=ms',fs:=fs' } r w':=by
 have get:∀ k,k < W.heap.size->∃ o,W.heap[k]? = some o:=fun k hk=>⟨_,Array.getElem?_eq_getElem hk⟩
 have ho:Only (fun j=>Om j\/Ot j) W w':=⟨T.bel.os.trans H.bel.os.symm,T.bel.tape.trans H.bel.tape.symm,T.bel.output.trans H.bel.output.symm,T.sz,fun k hk hn=>by
  obtain ⟨o,ho⟩:=get k hk
  exact (T.fr k o ⟨ho,fun e=>hn (.inl e),fun e=>hn (.inr e)⟩).trans ho.symm⟩
 refine H.turn ho T.mem T.tab (fun j hj=>?_) T.dis
 by_cases hm:Om j
 ·exact .inl hm
 ·rcases Nat.lt_or_ge j W.heap.size with hl | hl
  ·obtain ⟨o,ho⟩:=get j hl
   exact absurd hj (T.nf j o ⟨ho,hm,fun e=>T.dis j hj e⟩).1
  ·exact .inr hl
theorem Y.table (H:Y b S r W) {f:Nat} {args:Array Value} {v:Value} {ms':Ms} {fs':List TabM.Fl} (h:∀ w Om Ot,TM w Om Ot b.mb b.tb S.ms b.C.n S.fs W->Calls Tryz.prog f args W (Tb.Td w Ot b.mb b.tb v ms' b.C.n fs')):Calls Tryz.prog f args W fun e w'=>e = .returned v/\Y b { S with ms:=ms',fs:=fs' } r w':=by
 obtain ⟨Om,Ot,K,pv,lv,kv,H⟩:=H
 refine (h _ _ _ H.tm).mono ?_
 rintro e w' ⟨Om',h1,h2⟩
 exact ⟨h1,Om',Ot,K,pv,lv,kv,H.tm_done h2⟩
end
end Pg
end Go.Proofs.YtcockldefmmhbaaGreatDoor
set_option linter.unusedVariables false
set_option linter.unusedSimpArgs false
set_option maxRecDepth 100000
namespace Go.Proofs.YtcockldefmmhbaaGreatDoor
open Go.ChangeShapes Go.WideShapes Go.ChangeAt Go.RowKit Go.Mtl Go.Lib
namespace Pg
open MemM (Ms)
open RulM (R)
open AutM (Ke)
open Me (ptr)
open Tb (TAt TM Fw)
structure SR (b:Bs) (Om Ot K:Nat->Prop) (pv:Value) (S:Sh) (W:World):Prop where
 mem:Me.MAt W Om b.mb S.ms
 tab:TAt W Ot b.tb b.mb b.C.n S.fs
 blk:Blk W b.B (shc b.C b.mb b.tb b.rm pv) 83
 map:RMap W K b.rm S.rl
 pts:W.ownsRow b.w0.heap.size 89 10 pv S.pts.length (pcs S.pts)
 bel:Below b.w0.heap.size b.w0 W
 nm:∀ j,Om j->b.w0.heap.size<=j
 nt:∀ j,Ot j->b.w0.heap.size<=j
 nb:b.w0.heap.size<=b.B
 nr:b.w0.heap.size<=b.rm
 dmt:∀ j,Om j->¬ Ot j
 dm : ¬ Om b.B/\¬ Om b.rm
 dt : ¬ Ot b.B/\¬ Ot b.rm
 br:b.B≠b.rm
 dp:∀ j,pv.ownBlock=some j->¬ Om j/\¬ Ot j/\j≠b.B/\j≠b.rm
 dk:∀ j,K j->¬ Own Om Ot b.B b.rm pv j/\j < W.heap.size
structure RB (b:Bs) (Om Ot K:Nat->Prop) (pv:Value) (g:Nat) (lv kv:Value) (r:Rn) (W:World):Prop where
 run:Blk W g (rnc b.B r lv kv) 97
 lis:Lv W K lv r.li
 kes:Kv W K kv r.ks
 ng:b.w0.heap.size<=g
 dg : ¬ Own Om Ot b.B b.rm pv g
 nk : ¬ K g
def RA (b:Bs) (Om Ot K:Nat->Prop) (pv:Value) (g:Nat) (r:Rn) (W:World):Prop:=∃ lv kv,RB b Om Ot K pv g lv kv r W
def Bs.at_ (b:Bs) (g:Nat) (W:World) (O K:Nat->Prop):Bs:={ b with g:=g,W:=W,O:=O,K:=K }
section
variable {b:Bs} {W w':World} {Om Ot K Om' Ot' K':Nat->Prop} {pv pv' lv kv:Value} {S S':Sh} {r r2 r':Rn} {g g2:Nat}
theorem SR.lt (H:SR b Om Ot K pv S W) {j:Nat} (hj:Own Om Ot b.B b.rm pv j):j < W.heap.size:=by
 rcases hj with h | h | rfl | rfl | h
 ·exact H.mem.lt j h
 ·exact H.tab.lt_ j h
 ·exact H.blk.lt
 ·exact H.map.lt
 ·exact (H.pts.lt j h).2
theorem SR.next (H:SR b Om Ot K pv S W) (hb:Below W.heap.size W w'):SR b Om Ot K pv S w' :=
 {mem:=H.mem.next hb,tab:=H.tab.next hb,blk:=H.blk.next hb,map:=H.map.only (Only.of_below (O:=fun _=>False) hb) (fun e=>e) fun _ _ e=>e
  pts:=row_keep H.pts fun g e=>hb.block g (H.pts.lt g e).2
  bel:=H.bel.trans (hb.mono H.bel.size)
  nm:=H.nm,nt:=H.nt,nb:=H.nb,nr:=H.nr,dmt:=H.dmt,dm:=H.dm,dt:=H.dt,br:=H.br,dp:=H.dp
  dk:=fun j hj=>⟨(H.dk j hj).1,Nat.lt_of_lt_of_le (H.dk j hj).2 hb.size⟩ }
theorem RB.next (H:RB b Om Ot K pv g lv kv r W) (hb:Below W.heap.size W w'):RB b Om Ot K pv g lv kv r w' :=
 ⟨H.run.next hb,H.lis.only (Only.of_below (O:=fun _=>False) hb) fun _ _ e=>e,H.kes.only (Only.of_below (O:=fun _=>False) hb) fun _ _ e=>e,H.ng,H.dg,H.nk⟩
theorem RA.next (H:RA b Om Ot K pv g r W) (hb:Below W.heap.size W w'):RA b Om Ot K pv g r w':=by
 obtain ⟨lv,kv,h⟩:=H
 exact ⟨lv,kv,h.next hb⟩
theorem SR.begin_ (H:SR b Om Ot K pv S W) (h:RA b Om Ot K pv g r W):Y (b.at_ g W (Own Om Ot b.B b.rm pv) K) S r W:=by
 obtain ⟨lv,kv,h⟩:=h
 exact ⟨Om,Ot,K,pv,lv,kv,
 {mem:=H.mem,tab:=H.tab,blk:=H.blk,map:=H.map,pts:=H.pts,run:=h.run,lis:=h.lis,kes:=h.kes,bel:=H.bel
  nm:=H.nm,nt:=H.nt,nb:=H.nb,nr:=H.nr,ng:=h.ng,dmt:=H.dmt,dm:=H.dm,dt:=H.dt,br:=H.br,dp:=H.dp,dg:=h.dg
  dk:=fun j hj=>⟨(H.dk j hj).1,fun e=>h.nk ((show j=g from e) ▸ hj),(H.dk j hj).2⟩
  onl:=Only.refl _ W,og:=fun j hj=>.inl hj,kg:=fun j hj=>hj,kn:=fun j hj=>.inl hj }⟩
theorem SR.done (H:SR b Om Ot K pv S W) (h:RA b Om Ot K pv g r W) (hy:Y (b.at_ g W (Own Om Ot b.B b.rm pv) K) S' r' w') :
  ∃ Om' Ot' K' pv',SR b Om' Ot' K' pv' S' w'/\RA b Om' Ot' K' pv' g r' w'/\(∀ g2 r2,g2≠g->RA b Om Ot K pv g2 r2 W->RA b Om' Ot' K' pv' g2 r2 w')/\Below b.w0.heap.size b.w0 w':=by
 obtain ⟨Om',Ot',K',pv',lv,kv,Y⟩:=hy
 have hK:∀ j,K j->¬ (Own Om Ot b.B b.rm pv j\/j=g):=fun j hj e=>e.elim (H.dk j hj).1 fun e=>by
  obtain ⟨_,_,h⟩:=h
  exact h.nk (e ▸ hj)
 refine ⟨Om',Ot',K',pv',
  {mem:=Y.mem,tab:=Y.tab,blk:=Y.blk,map:=Y.map,pts:=Y.pts,bel:=Y.bel,nm:=Y.nm,nt:=Y.nt,nb:=Y.nb,nr:=Y.nr,dmt:=Y.dmt,dm:=Y.dm,dt:=Y.dt,br:=Y.br,dp:=Y.dp
   dk:=fun j hj=>⟨(Y.dk j hj).1,(Y.dk j hj).2.2⟩ },
  ⟨lv,kv,Y.run,Y.lis,Y.kes,Y.ng,Y.dg,fun e=>(Y.dk g e).2.1 rfl⟩,fun g2 r2 hne h2=>?_,Y.bel⟩
 obtain ⟨lv2,kv2,h2⟩:=h2
 have hlt:=h2.run.lt
 exact ⟨lv2,kv2,h2.run.only Y.onl fun e=>e.elim h2.dg hne,(h2.lis.only Y.onl hK).mono Y.kg,(h2.kes.only Y.onl hK).mono Y.kg,h2.ng,
  fun e=>(Y.og g2 e).elim h2.dg fun e=>(by have:W.heap.size<=g2:=e;omega),fun e=>(Y.kn g2 e).elim h2.nk fun e=>(by have:W.heap.size<=g2:=e;omega)⟩
end
end Pg
end Go.Proofs.YtcockldefmmhbaaGreatDoor
