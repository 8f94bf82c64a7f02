import Derived.Test.YtbhnbcadgmagpaaGreatDoorBig
import Derived.Test.YtbhnbcadgmagpaaGreatDoorJ1
import Derived.Test.YtbhnbcadgmagpaaGreatDoorJ10
import Derived.Test.YtbhnbcadgmagpaaGreatDoorJ4
import Derived.Test.YtbhnbcadgmagpaaGreatDoorJ11
import Derived.Test.YtbhnbcadgmagpaaGreatDoorJ3
set_option linter.unusedVariables false
set_option linter.unusedSimpArgs false
set_option maxHeartbeats 4000000
set_option maxRecDepth 100000
namespace Go.Proofs.YtbhnbcadgmagpaaGreatDoor
namespace bJ
structure Fl where
 k:ak.Ke
 x:Int
 dn:Bool
structure Fl.Ok(f:Fl):Prop where
 k:f.k.Ok
 lo : -9223372036854775808<=f.x
 hi:f.x<=9223372036854775807
def Jz(fs:List Fl):Prop:=fs.Pairwise (λx y=>x.k.num<y.k.num)
structure dN(fs:List Fl):Prop where
 ok:∀f∈fs,f.Ok
 wZ:Jz fs
theorem dN.nil:dN []:=⟨λf h=>absurd h List.not_mem_nil,List.Pairwise.nil⟩
def find(k:ak.Ke)(fs:List Fl):Option Fl:=fs.find? (λf=>decide (f.k=k))
def idx(k:ak.Ke)(fs:List Fl):Option Nat:=fs.findIdx? (λf=>decide (f.k=k))
def drop(k:ak.Ke)(fs:List Fl):List Fl:=fs.filter (λf=>decide (f.k≠k))
def put(g:Fl)(fs:List Fl):List Fl:=fs.map (λf=>if f.k=g.k then g else f)
def ins(g:Fl):List Fl->List Fl
 | []=>[g]
 | f::fs=>if f.k.num<g.k.num then f::ins g fs else g::f::fs
theorem b6{k:ak.Ke}{fs:List Fl}{f:Fl}(h:find k fs=some f):f∈fs/\f.k=k:=by
 unfold find at h;exact⟨List.mem_of_find?_eq_some h,by simpa using List.find?_some h⟩
theorem bP{k:ak.Ke}{fs:List Fl}(h:find k fs=none):∀f∈fs,f.k≠k:=by
 unfold find at h;rw[List.find?_eq_none]at h;intro f hf;simpa using h f hf
theorem eZ{f:Fl}{fs:List Fl}:Jz (f::fs)↔(∀g∈fs,f.k.num<g.k.num)/\Jz fs:=List.pairwise_cons
theorem dN.tail{f:Fl}{fs:List Fl}(h:dN (f::fs)):dN fs:=⟨λg hg=>h.ok g (List.mem_cons_of_mem _ hg),(eZ.1 h.wZ).2⟩
theorem dN.JA{fs:List Fl}(h:dN fs){f g:Fl}(hf:f∈fs)(hg:g∈fs)(e:f.k=g.k):f=g:=by
 induction fs with
 | nil=>cases hf
 | cons x fs ih =>
  have h1:=(eZ.1 h.wZ).1
  rcases List.mem_cons.1 hf with rfl | hf' <;> rcases List.mem_cons.1 hg with rfl | I0
  ·rfl
  ·have:=h1 g I0;rw[e]at this;omega
  ·have:=h1 f hf';rw[e]at this;omega
  ·exact ih h.tail hf' I0
theorem dN.nB{fs:List Fl}(h:dN fs){f:Fl}(hf:f∈fs):find f.k fs=some f:=by
 cases hq:find f.k fs with
 | none=>exact absurd rfl (bP hq f hf)
 | some g=>obtain⟨h1,h2⟩:=b6 hq;rw[h.JA h1 hf h2]
theorem dN.nodup{fs:List Fl}(h:dN fs):(fs.map (·.k)).Nodup:=by
 rw[List.nodup_iff_pairwise_ne,List.pairwise_map]
 exact h.wZ.imp λhlt e=>by rw[e]at hlt;omega
theorem fJ{k:ak.Ke}{fs:List Fl}{f:Fl}:f∈drop k fs↔f∈fs/\f.k≠k:=by unfold drop;simp
theorem dN.drop{fs:List Fl}(h:dN fs)(k:ak.Ke):dN (drop k fs) :=
 ⟨λf hf=>h.ok f (fJ.1 hf).1,List.Pairwise.filter _ h.wZ⟩
theorem w_{k:ak.Ke}{fs:List Fl}(h:find k fs=none):drop k fs=fs:=by
 unfold bJ.drop;rw[List.filter_eq_self];intro f hf;simpa using bP h f hf
theorem xa(k:ak.Ke)(fs:List Fl):find k (drop k fs)=none:=by
 unfold find;rw[List.find?_eq_none];intro f hf;simpa using(fJ.1 hf).2
theorem dN.iH{fs:List Fl}(h:dN fs){k k':ak.Ke}(hne:k'≠k):find k' (bJ.drop k fs)=find k' fs:=by
 cases hq:find k' fs with
 | none =>
  unfold find;rw[List.find?_eq_none]
  intro f hf
  simpa using bP hq f (fJ.1 hf).1
 | some f =>
  obtain⟨h1,h2⟩:=b6 hq
  have:=(h.drop k).nB (fJ.2 ⟨h1,by rw[h2];exact hne⟩)
  rwa [h2]at this
theorem dN.split{fs:List Fl}(h:dN fs){k:ak.Ke}{f:Fl}(hf:find k fs=some f):∃xs ys,fs=xs++f::ys/\idx k fs=some xs.length/\bJ.drop k fs=xs++ys/\(∀g,g.k=k->put g fs=xs++g::ys) ∧
  (∀g∈xs,g.k≠k)/\(∀g∈ys,g.k≠k):=by
 obtain⟨hm,hk⟩:=b6 hf
 obtain⟨xs,ys,e⟩:=List.append_of_mem hm
 have hs:=h.wZ
 unfold Jz at hs
 rw[e,List.pairwise_append,List.pairwise_cons]at hs
 obtain⟨_,⟨h2,_⟩,h3⟩:=hs
 have nx:∀g∈xs,g.k≠k:=λg hg e'=>by have:=h3 g hg f List.mem_cons_self;rw[e',hk]at this;omega
 have ny:∀g∈ys,g.k≠k:=λg hg e'=>by have:=h2 g hg;rw[e',hk]at this;omega
 refine⟨xs,ys,e,?_,?_,?_,nx,ny⟩
 ·unfold idx;rw[e,List.findIdx?_append,List.findIdx?_eq_none_iff.2 (λg hg=>by simpa using nx g hg)];simp[List.findIdx?_cons,hk]
 ·unfold bJ.drop;rw[e,List.filter_append,List.filter_cons,if_neg (by simpa using hk),List.filter_eq_self.2 (λg hg=>by simpa using nx g hg),List.filter_eq_self.2 (λg hg=>by simpa using ny g hg)]
 ·intro g hg;unfold bJ.put;rw[e,List.map_append,List.map_cons,if_pos (by rw[hk,hg])]
  have e1:xs.map (λf=>if f.k=g.k then g else f)=xs:=by
   exact(List.map_congr_left (g:=id) λx hx=>by rw[if_neg (by rw[hg];exact nx x hx)];rfl).trans (List.map_id xs)
  have e2:ys.map (λf=>if f.k=g.k then g else f)=ys:=by
   exact(List.map_congr_left (g:=id) λx hx=>by rw[if_neg (by rw[hg];exact ny x hx)];rfl).trans (List.map_id ys)
  rw[e1,e2]
theorem tV{k:ak.Ke}{fs:List Fl}(h:find k fs=none):idx k fs=none:=by
 unfold idx;rw[List.findIdx?_eq_none_iff];intro f hf;simpa using bP h f hf
theorem dN.tW{fs:List Fl}(h:dN fs){k:ak.Ke}{f:Fl}(hf:find k fs=some f):(bJ.drop k fs).length+1=fs.length:=by
 obtain⟨xs,ys,e,_,e2,_⟩:=h.split hf;rw[e2,e];simp;omega
theorem yo{g f:Fl}{fs:List Fl}(h:f∈put g fs):f=g\/f∈fs:=by
 unfold put at h;obtain⟨x,hx,rfl⟩:=List.mem_map.1 h;split
 ·exact .inl rfl
 ·exact .inr hx
theorem tX(g:Fl)(fs:List Fl):(put g fs).map (·.k)=fs.map (·.k):=by
 unfold put;rw[List.map_map];refine List.map_congr_left λx _=>?_;show(if x.k=g.k then g else x).k=x.k;split
 ·rename_i h;exact h.symm
 ·rfl
theorem yp(g:Fl)(fs:List Fl):(put g fs).length=fs.length:=by unfold put;rw[List.length_map]
theorem dN.put{fs:List Fl}(h:dN fs){g:Fl}(hg:g.Ok):dN (put g fs):=by
 refine⟨λf hf=>?_,?_⟩
 ·rcases yo hf with rfl | hf
  ·exact hg
  ·exact h.ok f hf
 ·have hs:=h.wZ;unfold Jz at hs ⊢
  have e:∀l:List Fl,l.Pairwise (λx y=>x.k.num<y.k.num)↔(l.map (·.k)).Pairwise (λx y=>x.num<y.num):=λl=>by rw[List.pairwise_map]
  rw[e,tX,← e];exact hs
theorem gC(g:Fl):∀fs:List Fl,(ins g fs).Perm (g::fs):=by
 intro fs
 induction fs with
 | nil=>exact List.Perm.refl _
 | cons f fs ih =>
  unfold ins
  split
  ·exact(ih.cons f).trans (List.Perm.swap _ _ _)
  ·exact List.Perm.refl _
theorem tA(g:Fl)(fs:List Fl):(ins g fs).length=fs.length+1:=(gC g fs).length_eq
theorem jO{g f:Fl}{fs:List Fl}:f∈ins g fs↔f=g\/f∈fs:=by rw[(gC g fs).mem_iff,List.mem_cons]
theorem dN.ins{fs:List Fl}(h:dN fs){g:Fl}(hg:g.Ok)(hn:find g.k fs=none):dN (ins g fs):=by
 refine⟨λf hf=>?_,?_⟩
 ·rcases jO.1 hf with rfl | hf
  ·exact hg
  ·exact h.ok f hf
 ·have hne:=bP hn;clear hn
  induction fs with
  | nil=>exact List.pairwise_singleton _ _
  | cons f fs ih =>
   obtain⟨h1,h2⟩:=eZ.1 h.wZ
   unfold bJ.ins
   split
   ·rename_i hlt;refine eZ.2 ⟨λx hx=>?_,ih h.tail λx hx=>hne x (List.mem_cons_of_mem _ hx)⟩
    rcases jO.1 hx with rfl | hx
    ·exact hlt
    ·exact h1 x hx
   ·rename_i hlt
    have hf:g.k.num<f.k.num:=by
     rcases Nat.lt_trichotomy g.k.num f.k.num with c | c | c
     ·exact c
     ·exact absurd (ak.Ke.aaL hg.k (h.ok f List.mem_cons_self).k c).symm (hne f List.mem_cons_self)
     ·exact absurd c hlt
    refine eZ.2 ⟨λx hx=>?_,h.wZ⟩
    rcases List.mem_cons.1 hx with rfl | hx
    ·exact hf
    ·have:=h1 x hx;omega
theorem pQ{ks:List ak.Ke}{fs:List Fl}(h:dN fs)(hp:ks.Perm (fs.map (·.k)))(hs:ks.Pairwise (λx y=>¬y.num<x.num)):ks=fs.map (·.k):=by
 have hs2:(fs.map (·.k)).Pairwise (λx y=>¬y.num<x.num):=by
  rw[List.pairwise_map]
  exact h.wZ.imp λhlt=>by omega
 refine hp.eq_of_pairwise (λx y hx hy h1 h2=>?_) hs hs2;obtain⟨f,hf,rfl⟩:=List.mem_map.1 (hp.mem_iff.1 hx);obtain⟨g,hg,rfl⟩:=List.mem_map.1 hy;exact ak.Ke.aaL (h.ok f hf).k (h.ok g hg).k zo
end bJ
open Go.ChangeShapes Go.WideShapes Go.ChangeAt Go.RowKit Go.aN Go.Lib
namespace Tb
open bJ
open Go.ChangeMaps (setBlock)
abbrev Py(x:Int)(d:Bool):Value:=.agg #[.int .i64 x,.bool d]
abbrev CW(f:Fl):Value:=Py f.x f.dn
def kv(f:Fl):Value×Value:=(Au.iQ f.k,CW f)
def n7(e:MapEntry):Value×Value:=(e.key,e.val)
theorem lq:Tryz.prog.underlying 133=some (.map 87 187):=zk
theorem NC(w:World):(zeroValue 187).run Tryz.prog w = .ok (Py 0 false) w:=zk
theorem mv(k:ak.Ke)(w:World):∀(es:List MapEntry) (gs:List Fl) (i:Nat),es.map n7=gs.map kv →
  (Instr.findAsking 87 (Au.iQ k) es i).run Tryz.prog w = .ok ((idx k gs).bind λj=>(gs[j]?).map λf=>(i+j,CW f)) w:=by
 intro es
 induction es with
 | nil=>intro gs i h;cases gs with
  | nil=>rfl
  | cons g gs=>simp at h
 | cons e es ih =>
  intro gs i h
  cases gs with
  | nil=>simp at h
  | cons g gs =>
   simp only[List.map_cons,List.cons.injEq]at h
   obtain⟨h1,h2⟩:=h
   unfold n7 kv at h1
   injection h1 with hk hv
   rw[Instr.findAsking,hk]
   simp only[Sem.run_bind,Au.JM,Result.andThen_ok]
   by_cases hg:g.k=k
   ·rw[decide_eq_true hg.symm,hv];simp[idx,List.findIdx?_cons,hg]
   ·rw[decide_eq_false (λe=>hg e.symm)];simp only[Bool.false_eq_true,if_false];rw[ih gs (i+1) h2];unfold idx;rw[List.findIdx?_cons];simp only[hg,decide_false,Bool.false_eq_true,if_false]
    cases gs.findIdx? (λf=>decide (f.k=k))with
    | none=>rfl
    | some j=>simp[Nat.add_assoc,Nat.add_comm 1 j]
theorem kx(k:ak.Ke)(w:World)(es:List MapEntry)(gs:List Fl)(h:es.map n7=gs.map kv) :
  (Instr.findKey 87 (Au.iQ k) es).run Tryz.prog w = .ok ((idx k gs).bind λj=>(gs[j]?).map λf=>(j,CW f)) w:=by
 rw[run_findKey_eq w Au.EF,mv k w es gs 0 h]
 simp only[Nat.zero_add]
def MapAt(w:World)(M:Nat)(fs:List Fl):Prop :=
 ∃(es:Array MapEntry) (clock:Nat) (gs:List Fl),w.heap[M]? = some (.map es clock)/\es.toList.map n7=gs.map kv/\gs.Perm fs/\(es.toList.map (·.born)).Nodup/\∀x∈es.toList,x.born<clock
theorem MapAt.lt{w:World}{M:Nat}{fs:List Fl}(H:MapAt w M fs):M<w.heap.size:=by
 obtain⟨es,clock,gs,h,_⟩:=H;exact(Array.getElem?_eq_some_iff.1 h).1
theorem MapAt.keep{w w':World}{M:Nat}{fs:List Fl}(H:MapAt w M fs)(h:w'.heap[M]? = w.heap[M]?):MapAt w' M fs:=by
 obtain⟨es,clock,gs,h0,hr⟩:=H;exact⟨es,clock,gs,h.trans h0,hr⟩
theorem MapAt.perm{w:World}{M:Nat}{fs fs':List Fl}(H:MapAt w M fs)(h:fs.Perm fs'):MapAt w M fs':=by
 obtain⟨es,clock,gs,h0,h1,h2,hr⟩:=H;exact⟨es,clock,gs,h0,h1,h2.trans h,hr⟩
theorem MapAt.new(w:World):MapAt (w.alloc (.map #[] 0)) w.heap.size [] :=
 ⟨#[],0,[],MapKept.heap_alloc w _ |>.1,rfl,List.Perm.refl _,by simp,by simp⟩
theorem qU{k:ak.Ke}{gs fs:List Fl}(hf:dN fs)(hp:gs.Perm fs):(find k fs=none/\idx k gs=none)\/∃f j,find k fs=some f/\idx k gs=some j/\gs[j]? = some f:=by
 cases hq:find k fs with
 | none=>exact .inl ⟨rfl,tV (by unfold find;rw[List.find?_eq_none];intro g hg;simpa using bP hq g (hp.mem_iff.1 hg))⟩
 | some f =>
  obtain⟨hm,hk⟩:=b6 hq
  refine .inr ⟨f,?_⟩
  cases hi:idx k gs with
  | none =>
   unfold idx at hi
   rw[List.findIdx?_eq_none_iff]at hi
   exact absurd (hi f (hp.mem_iff.2 hm)) (by simpa using hk)
  | some j =>
   unfold idx at hi
   obtain⟨hj,h2,_⟩:=List.findIdx?_eq_some_iff_getElem.1 hi
   have e:gs[j]=f:=hf.JA (hp.mem_iff.1 (List.getElem_mem hj)) hm (by rw[hk];simpa using h2)
   exact⟨j,rfl,rfl,by rw[List.getElem?_eq_getElem hj,e]⟩
theorem pY{gs fs:List Fl}(hf:dN fs)(hp:gs.Perm fs):(gs.map (·.k)).Nodup:=(hp.map _).nodup_iff.2 hf.nodup
theorem pZ{k:ak.Ke}{gs:List Fl}(hn:(gs.map (·.k)).Nodup){j:Nat}(hi:idx k gs=some j){i:Nat}{g:Fl}(hg:gs[i]? = some g):g.k=k↔i=j:=by
 unfold idx at hi;obtain⟨hj,h2,_⟩:=List.findIdx?_eq_some_iff_getElem.1 hi
 have h2:gs[j].k=k:=by simpa using h2
 obtain⟨hlt,rfl⟩:=List.getElem?_eq_some_iff.1 hg;constructor
 ·intro e;exact(List.getElem_inj (h₀:=by simpa using hlt) (h₁:=by simpa using hj) hn).1 (by simp[e,h2])
 ·rintro rfl;exact h2
theorem nE{α β:Type}(f:α->β)(l:List α)(j:Nat):(l.eraseIdx j).map f=(l.map f).eraseIdx j:=by simp[List.eraseIdx_eq_take_drop_succ,List.map_take,List.map_drop]
theorem AK{k:ak.Ke}:∀{gs:List Fl} {j:Nat},(gs.map (·.k)).Nodup->idx k gs=some j->gs.eraseIdx j=drop k gs:=by
 intro gs
 induction gs with
 | nil=>intro j _ h;simp[idx]at h
 | cons g gs ih =>
  intro j hn h
  have Pz:=List.nodup_cons.1 hn
  unfold idx at h
  rw[List.findIdx?_cons]at h
  by_cases hg:g.k=k
  ·simp[hg]at h;subst h;unfold bJ.drop;rw[List.eraseIdx_cons_zero,List.filter_cons,if_neg (by simpa using hg),List.filter_eq_self.2];intro x hx;have:x.k≠g.k:=λe=>Pz.1 (List.mem_map.2 ⟨x,hx,e⟩);simpa[← hg]using this
  ·simp only[hg,decide_false,Bool.false_eq_true,if_false,Option.map_eq_some_iff]at h;obtain⟨i,h,rfl⟩:=h;rw[List.eraseIdx_cons_succ,ih Pz.2 h];unfold bJ.drop;rw[List.filter_cons,if_pos (by simpa using hg)]
theorem JN{k:ak.Ke}{g:Fl}(hg:g.k=k):∀{gs:List Fl} {j:Nat},(gs.map (·.k)).Nodup->idx k gs=some j->gs.set j g=put g gs:=by
 intro gs j hn hi;apply List.ext_getElem?;intro i;rw[List.getElem?_set];unfold bJ.put;rw[List.getElem?_map]
 cases hq:gs[i]? with
 | none=>
  have hge:=List.getElem?_eq_none_iff.1 hq
  split
  ·rename_i e;subst e;rw[if_neg zo];rfl
  ·rfl
 | some x =>
  have ho:=pZ hn hi hq
  have hlt:=(List.getElem?_eq_some_iff.1 hq).1
  by_cases e:j=i
  ·subst e;rw[if_pos rfl,if_pos hlt,Option.map_some,if_pos (by rw[hg];exact ho.2 rfl)]
  ·rw[if_neg e,Option.map_some,if_neg (by rw[hg];exact λh=>e (ho.1 h).symm)]
theorem xf{w:World}{M:Nat}{fs:List Fl}(H:MapAt w M fs)(hf:dN fs){k:ak.Ke}(hn:find k fs=none) :
  (Instr.lookup 133 (.map (some M)) (Au.iQ k) true).run Tryz.prog w = .ok (.tuple #[Py 0 false,.bool false]) w:=by
 obtain⟨es,clock,gs,h0,h1,h2,h3,h4⟩:=H
 obtain⟨_,hi⟩:=(qU hf h2).resolve_right (λh=>by obtain⟨f,j,e,_⟩:=h;rw[hn]at e;cases e)
 simp only[Instr.lookup,Sem.run_bind,run_underlying lq,Result.andThen_ok,MapKept.run_getObj_map h0,Au.aar,kx k w es.toList gs h1,hi,Option.bind_none,NC,Sem.run_pure,if_true]
theorem xg{w:World}{M:Nat}{fs:List Fl}(H:MapAt w M fs)(hf:dN fs){k:ak.Ke}{f:Fl}(hn:find k fs=some f) :
  (Instr.lookup 133 (.map (some M)) (Au.iQ k) true).run Tryz.prog w = .ok (.tuple #[CW f,.bool true]) w:=by
 obtain⟨es,clock,gs,h0,h1,h2,h3,h4⟩:=H
 rcases qU (k:=k) hf h2 with⟨e,_⟩ | ⟨f',j,e,hi,hj⟩
 ·rw[hn]at e;cases e
 ·rw[hn]at e;obtain rfl:=Option.some.inj e;simp only[Instr.lookup,Sem.run_bind,run_underlying lq,Result.andThen_ok,MapKept.run_getObj_map h0,Au.aar,kx k w es.toList gs h1,hi,hj,Option.bind_some,Option.map_some,Sem.run_pure,if_true]
theorem dZ{w:World}{M:Nat}{es:Array MapEntry}{clock:Nat}(h:w.heap[M]? = some (.map es clock))(o:Obj):ar (· = M) w (setBlock w M o) :=
 ⟨rfl,rfl,rfl,by simp[setBlock],λk _ hk=>ChangeMaps.heap_setBlock_other h o hk⟩
theorem JO{w:World}{M:Nat}{fs:List Fl}(H:MapAt w M fs)(hf:dN fs){k:ak.Ke}{f:Fl}(hn:find k fs=some f)(ty:TypeId) :
  ∃w',(Builtin.delete_ #[133,87] ty #[.map (some M),Au.iQ k]).run Tryz.prog w = .ok (.tuple #[]) w'/\MapAt w' M (drop k fs)/\ar (· = M) w w':=by
 obtain⟨es,clock,gs,h0,h1,h2,h3,h4⟩:=H
 rcases qU (k:=k) hf h2 with⟨e,_⟩ | ⟨f',j,e,hi,hj⟩
 ·rw[hn]at e;cases e
 ·rw[hn]at e;obtain rfl:=Option.some.inj e
  have hlt:j<es.size:=by
   have:=congrArg List.length h1;simp at this;have:=(List.getElem?_eq_some_iff.1 hj).1;omega
  refine⟨setBlock w M (.map (es.eraseIdxIfInBounds j) clock),?_,?_,dZ h0 _⟩
  ·simp only[Builtin.delete_,List.getElem?_toArray,List.getElem?_cons_zero,List.getElem?_cons_succ,Sem.run_bind,run_underlying lq,Result.andThen_ok,MapKept.run_getObj_map h0,Au.aar,kx k w es.toList gs h1,hi,hj,Option.bind_some,Option.map_some,MapKept.run_setObj_map _ h0,Sem.run_pure];rfl
  ·have Zm:gs.eraseIdx j=drop k gs:=by
    exact AK (pY hf h2) hi
   have e1:(es.eraseIdxIfInBounds j).toList=es.toList.eraseIdx j:=by
    rw[Array.eraseIdxIfInBounds,dif_pos hlt];simp
   refine⟨_,clock,gs.eraseIdx j,ChangeMaps.heap_setBlock_same h0 _,?_,?_,?_,?_⟩
   ·rw[e1,nE,h1,nE]
   ·rw[Zm];unfold bJ.drop;exact h2.filter _
   ·rw[e1,nE];exact h3.eraseIdx _
   ·intro x hx;rw[e1]at hx;exact h4 x (List.mem_of_mem_eraseIdx hx)
theorem ND{w:World}{M:Nat}{fs:List Fl}(H:MapAt w M fs)(hf:dN fs){f g:Fl}(hn:find g.k fs=some f) :
  ∃w',(Instr.mapUpdate 133 (.map (some M)) (Au.iQ g.k) (CW g)).run Tryz.prog w = .ok () w'/\MapAt w' M (put g fs)/\ar (· = M) w w':=by
 obtain⟨es,clock,gs,h0,h1,h2,h3,h4⟩:=H
 rcases qU (k:=g.k) hf h2 with⟨e,_⟩ | ⟨f',j,e,hi,hj⟩
 ·rw[hn]at e;cases e
 ·rw[hn]at e;obtain rfl:=Option.some.inj e
  have hlt:j<es.size:=by
   have:=congrArg List.length h1;simp at this;have:=(List.getElem?_eq_some_iff.1 hj).1;omega
  have hkey:(es[j]?).map (·.key)=some (Au.iQ g.k):=by
   have h5:=congrArg (·[j]?) h1;simp only[List.getElem?_map,hj,Option.map_some,Array.getElem?_toList]at h5;rw[Array.getElem?_eq_getElem hlt]at h5 ⊢;simp only[Option.map_some,Option.some.injEq]at h5 ⊢;unfold n7 kv at h5;injection h5 with h6 h7;rw[h6,(pZ (pY hf h2) hi hj).2 rfl]
  refine⟨setBlock w M (.map (es.modify j λe=>{ e with key:=Au.iQ g.k,val:=CW g }) clock),?_,?_,dZ h0 _⟩
  ·simp only[Instr.mapUpdate,Sem.run_bind,run_underlying lq,Result.andThen_ok,MapKept.run_getObj_map h0,Au.aar,kx g.k w es.toList gs h1,hi,hj,Option.bind_some,Option.map_some,hkey,Option.getD_some,Au.FX,MapKept.run_setObj_map _ h0];rfl
  ·have e1:(es.modify j λe=>{ e with key:=Au.iQ g.k,val:=CW g }).toList=es.toList.modify j λe=>{ e with key:=Au.iQ g.k,val:=CW g }:=zs;refine⟨_,clock,gs.set j g,ChangeMaps.heap_setBlock_same h0 _,?_,?_,?_,?_⟩
   ·rw[e1,List.map_set,← h1];apply List.ext_getElem?;intro i;simp only[List.getElem?_map,List.getElem?_modify,List.getElem?_set,List.length_map,Array.length_toList,Array.getElem?_toList];by_cases e:j=i
    ·subst e;rw[if_pos rfl,if_pos hlt,Array.getElem?_eq_getElem hlt];simp[n7,kv]
    ·rw[if_neg e];simp[e]
   ·rw[JN rfl (pY hf h2) hi];unfold bJ.put;exact h2.map _
   ·rw[e1]
    have:(es.toList.modify j λe=>{ e with key:=Au.iQ g.k,val:=CW g }).map (·.born)=es.toList.map (·.born):=by
     apply List.ext_getElem?;intro i;simp only[List.getElem?_map,List.getElem?_modify];by_cases e:j=i
     ·simp[e];cases es[i]? <;> rfl
     ·simp[e]
    rw[this];exact h3
   ·intro x hx;rw[e1]at hx;obtain⟨i,hx⟩:=List.mem_iff_getElem?.1 hx;rw[List.getElem?_modify]at hx
    cases hq:es.toList[i]? with
    | none=>simp[hq]at hx
    | some y =>
     have hy:=h4 y (List.mem_of_getElem? hq)
     rw[hq]at hx
     simp only[Option.map_eq_map,Option.map_some,Option.some.injEq]at hx
     subst hx
     split <;> exact hy
theorem NE{w:World}{M:Nat}{fs:List Fl}(H:MapAt w M fs)(hf:dN fs){g:Fl}(hn:find g.k fs=none) :
  ∃w',(Instr.mapUpdate 133 (.map (some M)) (Au.iQ g.k) (CW g)).run Tryz.prog w = .ok () w'/\MapAt w' M (ins g fs)/\ar (· = M) w w':=by
 obtain⟨es,clock,gs,h0,h1,h2,h3,h4⟩:=H
 obtain⟨_,hi⟩:=(qU hf h2).resolve_right (λh=>by obtain⟨f,j,e,_⟩:=h;rw[hn]at e;cases e)
 refine⟨setBlock w M (.map (es.push { key:=Au.iQ g.k,val:=CW g,born:=clock }) (clock+1)),?_,?_,dZ h0 _⟩
 ·simp only[Instr.mapUpdate,Sem.run_bind,run_underlying lq,Result.andThen_ok,MapKept.run_getObj_map h0,Au.aar,kx g.k w es.toList gs h1,hi,Option.bind_none,MapKept.run_setObj_map _ h0];rfl
 ·refine⟨_,clock+1,gs++[g],ChangeMaps.heap_setBlock_same h0 _,?_,?_,?_,?_⟩
  ·simp[h1,n7,kv]
  ·exact(List.perm_append_comm (l₁:=gs) (l₂:=[g])).trans ((h2.cons g).trans (gC g fs).symm)
  ·simp only[Array.toList_push,List.map_append,List.map_cons,List.map_nil];rw[List.nodup_append];refine⟨h3,by simp,λa ha b hb e=>?_⟩;obtain⟨x,hx,rfl⟩:=List.mem_map.1 ha;have:=h4 x hx;simp at hb;omega
  ·intro x hx;simp only[Array.toList_push,List.mem_append,List.mem_singleton]at hx
   rcases hx with hx | rfl
   ·have:=h4 x hx;omega
   ·simp
end Tb
namespace Tb
open bJ
open cB (bN kj tL)
open bg (Ms ag ai)
open Me (ptr)
theorem qd{fn:Func}{t u v x:Tmp}(h:fn.results = #[.tmp t,.tmp u,.tmp v,.tmp x])(tmps:Array Value)(P:Program)(w:World) :
  (results fn tmps).run P w = .ok (.tuple #[tmps.getD t undef,tmps.getD u undef,tmps.getD v undef,tmps.getD x undef]) w:=by
 simp[results,h,go_sem]
def gZ(n:Nat)(k:ak.Ke):Nat:=kj k.a k.b k.p k.q k.r % n
def fC(c:ak.Ke->Nat)(i:Nat)(fs:List Fl):List Fl:=fs.filter λf=>decide (c f.k=i)
abbrev part(n i:Nat)(fs:List Fl):List Fl:=fC (gZ n) i fs
def upd(g:Fl)(fs:List Fl):List Fl:=if (find g.k fs).isSome then put g fs else ins g fs
theorem AV{g f:Fl}{fs:List Fl}(h:find g.k fs=some f):upd g fs=put g fs:=by unfold upd;rw[h];rfl
theorem uf{g:Fl}{fs:List Fl}(h:find g.k fs=none):upd g fs=ins g fs:=by unfold upd;rw[h];rfl
theorem NJ{fs:List Fl}(h:dN fs){g:Fl}(hg:g.Ok):dN (upd g fs):=by
 cases hf:find g.k fs with
 | some f=>rw[AV hf];exact h.put hg
 | none=>rw[uf hf];exact h.ins hg hf
theorem yB{n:Nat}(hn:0<n)(k:ak.Ke):gZ n k<n:=Nat.mod_lt _ hn
theorem jq{c:ak.Ke->Nat}{i:Nat}{fs:List Fl}{f:Fl}:f∈fC c i fs↔f∈fs/\c f.k=i:=by unfold fC;simp
theorem fL{fs:List Fl}(h:dN fs)(c:ak.Ke->Nat)(i:Nat):dN (fC c i fs):=⟨λf hf=>h.ok f (jq.1 hf).1,List.Pairwise.filter _ h.wZ⟩
theorem kC{fs:List Fl}(h:dN fs)(c:ak.Ke->Nat)(k:ak.Ke):find k (fC c (c k) fs)=find k fs:=by
 cases hf:find k fs with
 | some f =>
  obtain⟨hm,hk⟩:=b6 hf
  have:=(fL h c (c k)).nB (jq.2 ⟨hm,by rw[hk]⟩)
  rwa [hk]at this
 | none =>
  unfold find
  rw[List.find?_eq_none]
  intro f hm
  simpa using bP hf f (jq.1 hm).1
theorem xm(c:ak.Ke->Nat)(i:Nat)(k:ak.Ke)(fs:List Fl):fC c i (drop k fs)=drop k (fC c i fs):=by
 unfold fC bJ.drop;rw[List.filter_filter,List.filter_filter];congr 1;funext f;exact Bool.and_comm _ _
theorem yC{c:ak.Ke->Nat}{i:Nat}{k:ak.Ke}(h:c k≠i)(fs:List Fl):fC c i (drop k fs)=fC c i fs:=by
 rw[xm];unfold bJ.drop;rw[List.filter_eq_self];intro f hf;have h2:=(jq.1 hf).2;simp only[decide_eq_true_eq];intro e;rw[e]at h2;exact h h2
theorem AW(c:ak.Ke->Nat)(i:Nat)(g:Fl)(fs:List Fl):fC c i (put g fs)=put g (fC c i fs):=by
 unfold fC bJ.put;rw[List.filter_map];refine congrArg (List.map _) (List.filter_congr λf _=>?_);show decide (c (if f.k=g.k then g else f).k=i)=_;split
 ·rename_i e;rw[e]
 ·rfl
theorem JZ{g:Fl}{fs:List Fl}(h:∀f∈fs,f.k≠g.k):put g fs=fs:=by
 unfold bJ.put;exact(List.map_congr_left (g:=id) λx hx=>by rw[if_neg (h x hx)];rfl).trans (List.map_id fs)
theorem AX{c:ak.Ke->Nat}{i:Nat}{g:Fl}(h:c g.k≠i)(fs:List Fl):fC c i (put g fs)=fC c i fs:=by
 rw[AW];exact JZ λf hf e=>h (by rw[← e];exact(jq.1 hf).2)
theorem AY(c:ak.Ke->Nat)(i:Nat)(g:Fl)(fs:List Fl):(fC c i (ins g fs)).Perm (if c g.k=i then g::fC c i fs else fC c i fs):=by
 refine((gC g fs).filter _).trans ?_;rw[List.filter_cons];by_cases h:c g.k=i
 ·rw[if_pos (by simpa using h),if_pos h];exact List.Perm.refl _
 ·rw[if_neg (by simpa using h),if_neg h];exact List.Perm.refl _
theorem AZ{c:ak.Ke->Nat}{i:Nat}{g:Fl}(h:c g.k≠i)(fs:List Fl):(fC c i fs).Perm (fC c i (upd g fs)):=by
 unfold upd;split
 ·rw[AX h]
 ·have:=AY c i g fs;rw[if_neg h]at this;exact this.symm
theorem J0{c:ak.Ke->Nat}{g:Fl}{fs:List Fl}(ho:dN fs):(upd g (fC c (c g.k) fs)).Perm (fC c (c g.k) (upd g fs)):=by
 have hf:=kC ho c g.k;unfold upd;rw[hf];split
 ·rw[AW]
 ·have:=AY c (c g.k) g fs;rw[if_pos rfl]at this;exact(gC g _).trans this.symm
theorem NK(g:Fl)(fs:List Fl):(upd g fs).length<=fs.length+1:=by
 unfold upd;split
 ·rw[yp];omega
 ·rw[tA];exact Nat.le_refl _
theorem A7(k:ak.Ke)(fs:List Fl):(drop k fs).length<=fs.length:=by unfold bJ.drop;exact List.length_filter_le _ _
structure TR(w:World)(O:Nat->Prop)(B mb n S:Nat)(M:Nat->Nat)(fs:List Fl):Prop where
 blk:aF w B #[ptr mb,.slice (some ⟨S,0,none⟩) n n] 131
 row:∀i,i<n->w.cell? ⟨S,i,none⟩=some (.map (some (M i)))
 map:∀i,i<n->MapAt w (M i) (part n i fs)
 inj:∀i j,i<n->j<n->M i=M j->i=j
 ns:S≠B
 nm:∀i,i<n->M i≠B/\M i≠S
 ob:O B
 os:O S
 om:∀i,i<n->O (M i)
 lt:∀j,O j->j<w.heap.size
section
variable {w w':World}{O O':Nat->Prop}{B mb n S:Nat}{M:Nat->Nat}{fs fs':List Fl}
theorem TR.keep(H:TR w O B mb n S M fs)(hs:w.heap.size<=w'.heap.size)(h:∀k,O k->w'.heap[k]? = w.heap[k]?):TR w' O B mb n S M fs where
 blk:=H.blk.keep (h _ H.ob)
 row:=λi hi=>(World.cell?_of_block (w:=w) (a:=⟨S,i,none⟩) (h S H.os)).trans (H.row i hi)
 map:=λi hi=>(H.map i hi).keep (h _ (H.om i hi))
 inj:=H.inj
 ns:=H.ns
 nm:=H.nm
 ob:=H.ob
 os:=H.os
 om:=H.om
 lt:=λj hj=>Nat.lt_of_lt_of_le (H.lt j hj) hs
theorem TR.far(H:TR w O B mb n S M fs)(h:ar O' w w')(hd:∀j,O j->¬O' j):TR w' O B mb n S M fs:=H.keep h.size λk hk=>h.block k (H.lt k hk) (hd k hk)
theorem TR.next(H:TR w O B mb n S M fs)(hb:Below w.heap.size w w'):TR w' O B mb n S M fs:=H.far (O':=λ_=>False) (ar.aS hb) (λ_ _ e=>e)
theorem TR.turn(H:TR w O B mb n S M fs){i:Nat}(hi:i<n)(ho:ar (· = M i) w w')(hm:MapAt w' (M i) (part n i fs'))(hp:∀j,j<n->j≠i->(part n j fs).Perm (part n j fs')):TR w' O B mb n S M fs' where
 blk:=H.blk.only ho (λe=>(H.nm i hi).1 e.symm)
 row:=λj hj=>(ho.cell (p:=⟨S,j,none⟩) (H.lt _ H.os) (λe=>(H.nm i hi).2 e.symm)).trans (H.row j hj)
 map:=λj hj=>by
  by_cases e:j=i
  ·subst e;exact hm
  ·exact((H.map j hj).keep (ho.block _ (H.lt _ (H.om j hj)) (λe2=>e (H.inj j i hj hi e2)))).perm (hp j hj e)
 inj:=H.inj
 ns:=H.ns
 nm:=H.nm
 ob:=H.ob
 os:=H.os
 om:=H.om
 lt:=λj hj=>Nat.lt_of_lt_of_le (H.lt j hj) ho.size
end
def UW(w:World)(O:Nat->Prop)(B mb n:Nat)(fs:List Fl):Prop:=(∃S M,TR w O B mb n S M fs)/\dN fs/\bN (n:Int)=true
section
variable {w w':World}{O O':Nat->Prop}{B mb n:Nat}{fs:List Fl}
theorem UW.far(H:UW w O B mb n fs)(h:ar O' w w')(hd:∀j,O j->¬O' j):UW w' O B mb n fs:=by
 obtain⟨⟨S,M,h1⟩,h2⟩:=H;exact⟨⟨S,M,h1.far h hd⟩,h2⟩
theorem UW.next(H:UW w O B mb n fs)(hb:Below w.heap.size w w'):UW w' O B mb n fs:=H.far (O':=λ_=>False) (ar.aS hb) (λ_ _ e=>e)
theorem UW.C4(H:UW w O B mb n fs):∀j,O j->j<w.heap.size:=by obtain⟨⟨S,M,h1⟩,h2⟩:=H;exact h1.lt
theorem UW.pos(H:UW w O B mb n fs):1<=n/\n<=4096:=by have:=cB.ko H.2.2;omega
end
structure Fw extends World where
 F:Nat->Obj->Prop
 lo:Nat:=0
def Fw.add(w:Fw)(g:Nat)(o:Obj):Fw:={ w with F:=λj x=>w.F j x\/(j=g/\x=o) }
def Fw.with(w:Fw)(O:Nat->Prop)(W:World):Fw:={ w with F:=λj x=>w.F j x\/(O j/\W.heap[j]? = some x) }
structure TM(w:Fw)(Om Ot:Nat->Prop)(mb B:Nat)(ms:Ms)(n:Nat)(fs:List Fl)(W:World):Prop where
 mem:Me.kA W Om mb ms
 dr:UW W Ot B mb n fs
 az:Below w.heap.size w.toWorld W
 nm:∀j,Om j->w.heap.size<=j
 nt:∀j,Ot j->w.heap.size<=j
 J1:∀j,Om j->¬Ot j
 fr:∀j o,w.F j o->W.heap[j]? = some o
 nf:∀j o,w.F j o->¬Om j/\¬Ot j
 sz:w.lo<=W.heap.size
section
variable {w:Fw}{W w':World}{Om Ot O':Nat->Prop}{mb B:Nat}{ms C5:Ms}{n:Nat}{fs fs':List Fl}
theorem tB{W:World}{j:Nat}{o:Obj}(h:W.heap[j]? = some o):j<W.heap.size:=(Array.getElem?_eq_some_iff.1 h).1
theorem TM.next(H:TM w Om Ot mb B ms n fs W)(hb:Below W.heap.size W w'):TM w Om Ot mb B ms n fs w':=⟨H.mem.next hb,H.dr.next hb,H.az.trans (hb.mono H.az.size),H.nm,H.nt,H.J1,λj o h=>(hb.block j (tB (H.fr j o h))).trans (H.fr j o h),H.nf,Nat.le_trans H.sz hb.size⟩
theorem TM.left(H:TM w Om Ot mb B ms n fs W)(hp:Me.kA w' O' mb C5)(ho:ar Om W w')(hO:∀j,O' j->Om j\/W.heap.size<=j):TM w O' Ot mb B C5 n fs w' :=
 ⟨hp,H.dr.far ho (λj hb ha=>H.J1 j ha hb),H.az.trans (ho.below H.nm H.az.size),λj hj=>(hO j hj).elim (H.nm j) (λh=>Nat.le_trans H.az.size h),H.nt,λj hj hb=>(hO j hj).elim (λh=>H.J1 j h hb) (λh=>by have:=H.dr.C4 j hb;omega),
  λj o h=>(ho.block j (tB (H.fr j o h)) (H.nf j o h).1).trans (H.fr j o h),λj o h=>⟨λhj=>(hO j hj).elim (H.nf j o h).1 (λe=>by have:=tB (H.fr j o h);omega),(H.nf j o h).2⟩,Nat.le_trans H.sz ho.size⟩
theorem TM.right(H:TM w Om Ot mb B ms n fs W)(hp:UW w' Ot B mb n fs')(ho:ar Ot W w'):TM w Om Ot mb B ms n fs' w' :=
 ⟨H.mem.far ho H.J1,hp,H.az.trans (ho.below H.nt H.az.size),H.nm,H.nt,H.J1,λj o h=>(ho.block j (tB (H.fr j o h)) (H.nf j o h).2).trans (H.fr j o h),H.nf,Nat.le_trans H.sz ho.size⟩
theorem TM.add(H:TM w Om Ot mb B ms n fs W)(o:Obj):TM (w.add W.heap.size o) Om Ot mb B ms n fs (W.alloc o):=by
 have h:=H.next (w':=W.alloc o) ((Below.refl _ W).alloc zl o);refine⟨h.mem,h.dr,h.az,h.nm,h.nt,h.J1,λj x hx=>?_,λj x hx=>?_,h.sz⟩
 ·rcases hx with hx | ⟨rfl,rfl⟩
  ·exact h.fr j x hx
  ·exact heap_alloc_new W _
 ·rcases hx with hx | ⟨rfl,rfl⟩
  ·exact h.nf j x hx
  ·exact⟨λe=>Nat.lt_irrefl _ (H.mem.lt _ e),λe=>Nat.lt_irrefl _ (H.dr.C4 _ e)⟩
theorem TM.drop{g:Nat}{o:Obj}(H:TM (w.add g o) Om Ot mb B ms n fs W):TM w Om Ot mb B ms n fs W:=⟨H.mem,H.dr,H.az,H.nm,H.nt,H.J1,λj x h=>H.fr j x (.inl h),λj x h=>H.nf j x (.inl h),H.sz⟩
theorem TM.box{g:Nat}{cs:Array Value}{t:TypeId}(H:TM (w.add g (.cells cs t (0,0))) Om Ot mb B ms n fs W):aF W g cs t:=H.fr g _ (.inr ⟨rfl,rfl⟩)
theorem TM.with{O:Nat->Prop}(H:TM w Om Ot mb B ms n fs W)(h:∀j,O j->¬Om j/\¬Ot j):TM (w.with O W) Om Ot mb B ms n fs W :=
 ⟨H.mem,H.dr,H.az,H.nm,H.nt,H.J1,λj x hx=>hx.elim (H.fr j x) λe=>e.2,λj x hx=>hx.elim (H.nf j x) λe=>h j e.1,H.sz⟩
theorem TM.without{O:Nat->Prop}{W0:World}(H:TM (w.with O W0) Om Ot mb B ms n fs W)(hlt:∀j,O j->j<W0.heap.size):TM w Om Ot mb B ms n fs W/\(∀j,O j->W.heap[j]? = W0.heap[j]?)/\∀j,O j->¬Om j/\¬Ot j:=by
 have get:∀j,O j->∃o,W0.heap[j]? = some o:=λj hj=>⟨_,Array.getElem?_eq_getElem (hlt j hj)⟩;refine⟨⟨H.mem,H.dr,H.az,H.nm,H.nt,H.J1,λj x h=>H.fr j x (.inl h),λj x h=>H.nf j x (.inl h),H.sz⟩,λj hj=>?_,λj hj=>?_⟩
 ·obtain⟨o,ho⟩:=get j hj;exact(H.fr j o (.inr ⟨hj,ho⟩)).trans ho.symm
 ·obtain⟨o,ho⟩:=get j hj;exact H.nf j o (.inr ⟨hj,ho⟩)
end
def eR(ms:Ms)(t i:Int):Bool:=decide (0<=t)&&(ag ms i==t)
def Td(w:Fw)(Ot:Nat->Prop)(mb B:Nat)(v:Value)(ms:Ms)(n:Nat)(fs:List Fl):Ending->World->Prop:=λe w'=>∃Om,e = .returned v/\TM w Om Ot mb B ms n fs w'
section
variable {w:Fw}{W:World}{Om Ot:Nat->Prop}{mb B:Nat}{ms:Ms}{n:Nat}{fs:List Fl}
theorem q8(H:TM w Om Ot mb B ms n fs W)(t i:Int):Calls Tryz.prog 173 #[ptr B,.int .i64 t,.int .i64 i] W λe w'=>e = .returned (.bool (eR ms t i))/\W=w':=by
 have HH:=hid (Me.ua H.mem i);obtain⟨⟨S,M,h1⟩,h2⟩:=H.dr;have c0:=h1.blk.cell 0 _ rfl;obtain⟨hv,QD⟩:∃v,ag ms i=v:=⟨_,rfl⟩;rw[QD]at HH;unfold eR;rw[QD];clear H h1 h2 QD;by_cases h:0<=t
 ·rw[decide_eq_true h,Bool.true_and];have d1:decide (0<=t)=true:=decide_eq_true h;obtain⟨b,hb⟩:∃b,(hv==t)=b:=⟨_,rfl⟩;rw[hb];clear h;go_in;go_wp2_with fail;refine HH.out.mono ?_;rintro e w' ⟨rfl,rfl⟩;go_wp2_with fail;go_ret;exact⟨by first | rfl | (rw[← hb];rfl),rfl⟩
 ·rw[decide_eq_false h,Bool.false_and];have d1:decide (0<=t)=false:=decide_eq_false h;clear h;go_in;go_wp2_with fail;go_ret;exact⟨rfl,rfl⟩
end
end Tb
end Go.Proofs.YtbhnbcadgmagpaaGreatDoor
namespace Go.Proofs.YtbhnbcadgmagpaaGreatDoor
open Go.ChangeShapes Go.WideShapes Go.ChangeAt Go.RowKit Go.aN Go.Lib
namespace Tb
open bJ
open cB (bN kj tL)
open bg (Ms ag ai)
open Me (ptr)
theorem ae(w:World)(o:Obj):Below w.heap.size w (w.alloc o):=(Below.refl _ w).alloc zl o
theorem Ku{n:Nat}(hn:bN (n:Int)=true)(k:ak.Ke):tL (kj k.a k.b k.p k.q k.r) (n:Int)=((gZ n k:Nat):Int):=by
 rw[cB.zY hn];unfold gZ;omega
section
variable {w:Fw}{W:World}{Om Ot:Nat->Prop}{mb B:Nat}{ms:Ms}{n:Nat}{fs:List Fl}
theorem fw(H:TM w Om Ot mb B ms n fs W)(t:Int)(k:ak.Ke)(hk:k.Ok)(i:Nat)(hi:gZ n k=i)(vi ve:Int)(hv:(eR ms t (i:Int)=true/\vi=(i:Int)/\ve=0)\/(eR ms t (i:Int)=false/\vi=0/\ve=13)) :
  Calls Tryz.prog 203 #[ptr B,.int .i64 t,Au.iQ k] W λe w'=>e = .returned (.tuple #[.int .i64 vi,.int .i64 ve])/\Below W.heap.size W w':=by
 have Kw:Hid (∀W,Calls Tryz.prog 66 #[.agg (Ky.eI k.a k.b k.p k.q k.r),.int .i64 (n:Int)] W λe w'=>e = .returned (.int .i64 (i:Int))/\Below W.heap.size W w'):=λW =>
  Ky.t_ k.a k.b k.p k.q k.r (n:Int) hk.a hk.b hk.p hk.q hk.r _ rfl _ (by rw[Ku H.dr.2.2,hi]) W
 have HX:=hid (aF.box W (Ky.eI k.a k.b k.p k.q k.r) 87)
 have HB:=hid (ae W (.cells (Ky.eI k.a k.b k.p k.q k.r) 87))
 have Uz:=hid (H.next (ae W (.cells (Ky.eI k.a k.b k.p k.q k.r) 87)))
 have Sf:n<=4096:=H.dr.pos.2
 clear H hk hi
 go_in
 go_wp2_with fail
 obtain⟨W1,oo⟩:∃v,W.alloc (.cells (Ky.eI k.a k.b k.p k.q k.r) 87)=v:=⟨_,rfl⟩
 rw[oo]at HX HB Uz ⊢
 clear oo
 obtain⟨⟨S,M,htr⟩,_⟩:=Uz.out.dr
 have Bj:=hid htr
 clear htr
 refine wp_region_held_drew (S:=λw'=>Hid (Below W1.heap.size W1 w')) zk (hid (Below.refl _ W1).drew) (λhH=>?_)
 refine zqt 0 (some 11) ?v1 rfl rfl ?c1 hH ?r1
 case c1=>(intro w' hS;obtain⟨x0,x1,x2,x3,x4⟩:=Ky.bZ (HX.out.next hS.out);go_simp;(try with_reducible rfl))
 try simp only[zq]
 refine zr 1 12 hH ?_
 refine zr 2 13 hH ?_
 refine zr 3 14 hH ?_
 try simp only[zq]
 refine zqt 4 (some 15) ?v5 rfl rfl ?c5 hH ?r5
 case c5=>(intro w' hS;have c1:=(Bj.out.next hS.out).blk.cell 1 _ rfl;go_simp;(try with_reducible rfl))
 try simp only[zq]
 refine zr 5 16 hH ?_
 try simp only[zq]
 refine zrd 6 (λK hK=>?_)
 go_simp
 refine(Kw.out _).mono ?_
 rintro e w2 ⟨rfl,cz⟩
 refine hK.out _ _ (hid (hH.out.trans (cz.mono hH.out.size))) (λhH=>?_)
 clear hK K
 clear cz
 try simp only[zq]
 refine zr 7 8 hH ?_
 try simp only[zq]
 refine wpAnyH_done zk ?_ _
 have H2:=hid (Uz.out.next hH.out)
 have dG:=hid (HB.out.trans (hH.out.mono HB.out.size))
 clear hH Uz Bj HX HB
 go_wp2_with fail
 refine(q8 H2.out t (i:Int)).mono ?_
 rcases hv with⟨hb,rfl,rfl⟩ | ⟨hb,rfl,rfl⟩
 ·rw[hb];rintro e w3 ⟨rfl,rfl⟩;clear hb;go_wp2_with fail;go_ret2;exact⟨rfl,dG.out⟩
 ·rw[hb];rintro e w3 ⟨rfl,rfl⟩;clear hb;go_wp2_with fail;go_ret2;exact⟨rfl,dG.out⟩
structure TQ(w:Fw)(Om Ot:Nat->Prop)(mb B:Nat)(ms:Ms)(n S:Nat)(M:Nat->Nat)(fs:List Fl)(k:ak.Ke)(gk:Nat)(W:World):Prop where
 tm:TM w Om Ot mb B ms n fs W
 tr:TR W Ot B mb n S M fs
 key:aF W gk (Ky.eI k.a k.b k.p k.q k.r) 87
 nk : ¬Ot gk
end
section
variable {w:Fw}{W w':World}{Om Ot O':Nat->Prop}{mb B:Nat}{ms C5:Ms}{n S:Nat}{M:Nat->Nat}{fs fs':List Fl}{k:ak.Ke}{gk:Nat}
theorem TQ.next(H:TQ w Om Ot mb B ms n S M fs k gk W)(hb:Below W.heap.size W w'):TQ w Om Ot mb B ms n S M fs k gk w':=⟨H.tm.next hb,H.tr.next hb,H.key.next hb,H.nk⟩
theorem TQ.drew(H:TQ w Om Ot mb B ms n S M fs k gk W):TQ w Om Ot mb B ms n S M fs k gk W.drew:=H.next (Below.refl _ W).drew
theorem TM.parts(H:TM w Om Ot mb B ms n fs W):∃S M,TR W Ot B mb n S M fs:=H.dr.1
theorem TM.VD(H:TM w Om Ot mb B ms n fs W):dN fs:=H.dr.2.1
end
section
variable {w:Fw}{W:World}{Om Ot:Nat->Prop}{mb B:Nat}{ms:Ms}{n:Nat}{fs:List Fl}
theorem NT(H:TM w Om Ot mb B ms n fs W)(t:Int)(k:ak.Ke)(hk:k.Ok)(i:Nat)(hi:gZ n k=i)(hh:eR ms t (i:Int)=false) :
  Calls Tryz.prog 150 #[ptr B,.int .i64 t,Au.iQ k] W (Td w Ot mb B (.tuple #[.int .i64 0,.bool false,.bool false,.int .i64 13]) ms n fs):=by
 have HS:Hid (∀W',TM w Om Ot mb B ms n fs W'->Calls Tryz.prog 203 #[ptr B,.int .i64 t,Au.iQ k] W' λe w'=>e = .returned (.tuple #[.int .i64 0,.int .i64 13])/\Below W'.heap.size W' w'):=λW' h=>fw h t k hk i hi 0 13 (.inr ⟨hh,rfl,rfl⟩)
 have HX:=hid (aF.box W (Ky.eI k.a k.b k.p k.q k.r) 87)
 have H1:=hid (H.next (ae W (.cells (Ky.eI k.a k.b k.p k.q k.r) 87)))
 clear H hk hi hh
 go_in
 go_wp2_with fail
 refine(HS.out _ H1.out).mono ?_
 rintro e w2 ⟨rfl,hb⟩
 have H2:=hid (H1.out.next hb)
 clear hb H1 HX
 go_wp2_with fail
 (try simp only[Exit.inBlock,Exit.then]);refine bodyPost_ret (qd rfl _ _ _) rfl ?_
 exact⟨_,rfl,H2.out⟩
theorem Ka(H:TM w Om Ot mb B ms n fs W)(t:Int)(k:ak.Ke)(hk:k.Ok)(x:Int)(d:Bool)(i:Nat)(hi:gZ n k=i)(hh:eR ms t (i:Int)=false) :
  Calls Tryz.prog 201 #[ptr B,.int .i64 t,Au.iQ k,.int .i64 x,.bool d] W (Td w Ot mb B (.int .i64 13) ms n fs):=by
 have HS:Hid (∀W',TM w Om Ot mb B ms n fs W'->Calls Tryz.prog 203 #[ptr B,.int .i64 t,Au.iQ k] W' λe w'=>e = .returned (.tuple #[.int .i64 0,.int .i64 13])/\Below W'.heap.size W' w'):=λW' h=>fw h t k hk i hi 0 13 (.inr ⟨hh,rfl,rfl⟩)
 have HX:=hid (aF.box W (Ky.eI k.a k.b k.p k.q k.r) 87)
 have H1:=hid (H.next (ae W (.cells (Ky.eI k.a k.b k.p k.q k.r) 87)))
 clear H hk hi hh
 go_in
 go_wp2_with fail
 refine(HS.out _ H1.out).mono ?_
 rintro e w2 ⟨rfl,hb⟩
 have H2:=hid (H1.out.next hb)
 clear hb H1 HX
 go_wp2_with fail
 go_ret
 exact⟨_,rfl,H2.out⟩
theorem Gn(H:TM w Om Ot mb B ms n fs W)(t:Int)(k:ak.Ke)(hk:k.Ok)(i:Nat)(hi:gZ n k=i)(hh:eR ms t (i:Int)=false) :
  Calls Tryz.prog 170 #[ptr B,.int .i64 t,Au.iQ k] W (Td w Ot mb B (.int .i64 13) ms n fs):=by
 have HS:Hid (∀W',TM w Om Ot mb B ms n fs W'->Calls Tryz.prog 203 #[ptr B,.int .i64 t,Au.iQ k] W' λe w'=>e = .returned (.tuple #[.int .i64 0,.int .i64 13])/\Below W'.heap.size W' w'):=λW' h=>fw h t k hk i hi 0 13 (.inr ⟨hh,rfl,rfl⟩)
 have HX:=hid (aF.box W (Ky.eI k.a k.b k.p k.q k.r) 87)
 have H1:=hid (H.next (ae W (.cells (Ky.eI k.a k.b k.p k.q k.r) 87)))
 clear H hk hi hh
 go_in
 go_wp2_with fail
 refine(HS.out _ H1.out).mono ?_
 rintro e w2 ⟨rfl,hb⟩
 have H2:=hid (H1.out.next hb)
 clear hb H1 HX
 go_wp2_with fail
 go_ret
 exact⟨_,rfl,H2.out⟩
theorem Bk(H:TM w Om Ot mb B ms n fs W)(hl:ms.ls.length<=1000000000000)(t:Int)(k:ak.Ke)(hk:k.Ok)(x:Int)(d b:Bool)(i:Nat)(hi:gZ n k=i)(hh:eR ms t (i:Int)=true)(hf:(∃f,find k fs=some f/\x=f.x/\d=f.dn/\b=true)\/(find k fs=none/\x=0/\d=false/\b=false)) :
  Calls Tryz.prog 150 #[ptr B,.int .i64 t,Au.iQ k] W (Td w Ot mb B (.tuple #[.int .i64 x,.bool d,.bool b,.int .i64 0]) (ai ms t 5 (i:Int)) n fs):=by
 have HS:Hid (∀W',TM w Om Ot mb B ms n fs W'->Calls Tryz.prog 203 #[ptr B,.int .i64 t,Au.iQ k] W' λe w'=>e = .returned (.tuple #[.int .i64 (i:Int),.int .i64 0])/\Below W'.heap.size W' w'):=λW' h=>fw h t k hk i hi (i:Int) 0 (.inl ⟨hh,rfl,rfl⟩)
 have HX:=hid (aF.box W (Ky.eI k.a k.b k.p k.q k.r) 87)
 have H1:=hid (H.next (ae W (.cells (Ky.eI k.a k.b k.p k.q k.r) 87)))
 have xE:=hid H.VD
 have hin:i<n:=by have:=yB (n:=n) (by have:=H.dr.pos;omega) k;omega
 have HI:=hid hi
 have QJ:=hid hl
 have MX:Hid (¬Ot W.heap.size):=λe=>Nat.lt_irrefl _ (H.dr.C4 _ e)
 have EL:Hid (¬Om W.heap.size):=λe=>Nat.lt_irrefl _ (H.mem.lt _ e)
 have S6:=hid hk
 have HL:Hid (∀w' m,MapAt w' m (part n i fs)->(Instr.lookup 133 (.map (some m)) (Au.iQ k) true).run Tryz.prog w' = .ok (.tuple #[Py x d,.bool b]) w'):=λw' m hm=>by
  have CC:=kC xE.out (gZ n) k;rw[hi]at CC
  rcases hf with⟨f,hf,rfl,rfl,rfl⟩ | ⟨hf,rfl,rfl,rfl⟩
  ·exact xg hm (fL xE.out _ _) (CC.trans hf)
  ·exact xf hm (fL xE.out _ _) (CC.trans hf)
 clear hf
 clear H hk hi hh hl
 go_in
 go_wp2_with fail
 refine(HS.out _ H1.out).mono ?_
 rintro e w2 ⟨rfl,hb⟩
 have H2:=hid (H1.out.next hb)
 have p_:=hid (HX.out.next hb)
 clear hb H1 HX HS
 obtain⟨⟨S,M,htr⟩,_⟩:=H2.out.dr
 have c0:=htr.blk.cell 0 _ rfl
 clear htr
 go_wp2_with fail
 clear c0
 refine(Me.uc H2.out.mem t (i:Int) QJ.out).mono ?_
 rintro e w3 ⟨MY,rfl,hp,ho,hO⟩
 have H3:=hid (H2.out.left hp ho hO)
 have k8:=hid (p_.out.only ho EL.out)
 clear hp ho hO H2 p_
 obtain⟨⟨S,M,htr⟩,_⟩:=H3.out.dr
 obtain⟨gk,PF⟩:∃g,W.heap.size=g:=⟨_,rfl⟩
 rw[PF]at k8 MX ⊢
 have HQ:Hid (TQ w MY Ot mb B (ai ms t 5 (i:Int)) n S M fs k gk w3):=⟨H3.out,htr,k8.out,MX.out⟩
 clear htr PF k8 H3
 go_wp2_with fail
 refine wp_region_held_drew (S:=λw'=>Hid (TQ w MY Ot mb B (ai ms t 5 (i:Int)) n S M fs k gk w')) zk (hid HQ.out.drew) (λhH=>?_)
 refine zr 0 30 hH ?_
 refine zr 1 31 hH ?_
 refine zr 2 32 hH ?_
 try simp only[zq]
 refine zqt 3 (some 33) ?v4 rfl rfl ?c4 hH ?r4
 case c4=>(intro w' hS;have c1:=hS.out.tr.blk.cell 1 _ rfl;go_simp;(try with_reducible rfl))
 try simp only[zq]
 refine zr 4 34 hH ?_
 try simp only[zq]
 refine zqt 5 (some 35) ?v6 rfl rfl ?c6 hH ?r6
 case c6=>(intro w' hS;have hv:=hin;go_simp;(try with_reducible rfl))
 try simp only[zq]
 refine zqt 6 (some 36) ?v7 rfl rfl ?c7 hH ?r7
 case c7=>(intro w' hS;have c1:=hS.out.tr.row i hin;go_simp;(try with_reducible rfl))
 try simp only[zq]
 refine zqt 7 (some 37) ?v8 rfl rfl ?c8 hH ?r8
 case c8=>(intro w' hS;obtain⟨x0,x1,x2,x3,x4⟩:=Ky.bZ hS.out.key;go_simp;(try with_reducible rfl))
 try simp only[zq]
 refine zqt 8 (some 38) ?v9 rfl rfl ?c9 hH ?r9
 case c9=>(intro w' hS;go_simp;rw[HL.out w' _ (hS.out.tr.map i hin)];simp only[Result.andThen_ok];(try with_reducible rfl))
 try simp only[zq]
 refine zr 9 29 hH ?_
 refine zr 10 39 hH ?_
 refine zr 11 40 hH ?_
 try simp only[zq]
 refine zrd 12 (λK hK=>?_)
 go_simp
 have e0:=(aF.box w3 #[.int .i64 0,.bool false] 187).drew.frozen 0
 have e1:=(aF.box w3 #[.int .i64 0,.bool false] 187).drew.frozen 1
 refine hK.out _ _ (hid (hH.out.next (ae _ _))) (λhH=>?_)
 clear hK K
 try simp only[zq]
 refine zrd 13 (λK hK=>?_)
 go_simp
 clear e0 e1
 refine hK.out _ _ (hid ((HQ.out.next (ae _ _)).drew)) (λhH=>?_)
 clear hK K
 have HE:=hid (aF.box w3 #[.int .i64 x,.bool d] 187).drew
 try simp only[zq]
 refine zr 14 8 hH ?_
 try simp only[zq]
 refine wpAnyH_done zk ?_ _
 have jx:=hH
 clear hH
 obtain⟨ge,hge⟩:∃g,w3.heap.size=g:=⟨_,rfl⟩
 obtain⟨w4,Sl⟩:∃v,(w3.alloc (.cells #[.int .i64 x,.bool d] 187)).drew=v:=⟨_,rfl⟩
 rw[hge]at HE ⊢
 rw[Sl]at HE jx ⊢
 clear hge Sl
 have XT:=HE
 clear HE HQ
 go_wp2_with fail
 refine wp_region_held_drew (S:=λw'=>Hid (Below w4.heap.size w4 w')) zk (hid (Below.refl _ w4).drew) (λhH=>?_)
 refine zr 0 41 hH ?_
 try simp only[zq]
 refine zqt 1 (some 42) ?v302 rfl rfl ?c302 hH ?r302
 case c302=>(intro w' hS;have y0:=XT.out.next hS.out |>.cell 0 _ rfl;go_simp;(try with_reducible rfl))
 try simp only[zq]
 refine zr 2 43 hH ?_
 try simp only[zq]
 refine zqt 3 (some 44) ?v304 rfl rfl ?c304 hH ?r304
 case c304=>(intro w' hS;have y1:=XT.out.next hS.out |>.cell 1 _ rfl;go_simp;(try with_reducible rfl))
 try simp only[zq]
 refine zr 4 45 hH ?_
 refine zr 5 6 hH ?_
 refine zr 6 7 hH ?_
 refine zr 7 8 hH ?_
 refine zr 8 9 hH ?_
 try simp only[zq]
 refine wpAnyH_done zk ?_ _
 have HR:=hid (jx.out.tm.next hH.out)
 clear hH
 go_wp2_with fail
 (try simp only[Exit.inBlock,Exit.then])
 refine bodyPost_ret (qd rfl _ _ _) rfl ?_
 exact⟨_,rfl,HR.out⟩
theorem jR(H:TM w Om Ot mb B ms n fs W)(hl:ms.ls.length<=1000000000000)(t:Int)(k:ak.Ke)(hk:k.Ok)(x:Int)(d:Bool)(i:Nat)(hi:gZ n k=i)(hh:eR ms t (i:Int)=true)(hx : -9223372036854775808<=x/\x<=9223372036854775807) :
  Calls Tryz.prog 201 #[ptr B,.int .i64 t,Au.iQ k,.int .i64 x,.bool d] W (Td w Ot mb B (.int .i64 0) (ai ms t 6 (i:Int)) n (upd ⟨k,x,d⟩ fs)):=by
 have HS:Hid (∀W',TM w Om Ot mb B ms n fs W'->Calls Tryz.prog 203 #[ptr B,.int .i64 t,Au.iQ k] W' λe w'=>e = .returned (.tuple #[.int .i64 (i:Int),.int .i64 0])/\Below W'.heap.size W' w'):=λW' h=>fw h t k hk i hi (i:Int) 0 (.inl ⟨hh,rfl,rfl⟩)
 have HX:=hid (aF.box W (Ky.eI k.a k.b k.p k.q k.r) 87)
 have H1:=hid (H.next (ae W (.cells (Ky.eI k.a k.b k.p k.q k.r) 87)))
 have xE:=hid H.VD
 have hin:i<n:=by have:=yB (n:=n) (by have:=H.dr.pos;omega) k;omega
 have HI:=hid hi
 have QJ:=hid hl
 have MX:Hid (¬Ot W.heap.size):=λe=>Nat.lt_irrefl _ (H.dr.C4 _ e)
 have EL:Hid (¬Om W.heap.size):=λe=>Nat.lt_irrefl _ (H.mem.lt _ e)
 have S6:=hid hk
 have UA:=hid hx
 have UB:Hid (∀w1 m,MapAt w1 m (part n i fs)->∃w',(Instr.mapUpdate 133 (.map (some m)) (Au.iQ k) (Py x d)).run Tryz.prog w1 = .ok () w'/\MapAt w' m (part n i (upd ⟨k,x,d⟩ fs))/\ar (· = m) w1 w'):=λw1 m hm=>by
  have CC:=kC xE.out (gZ n) k;have S8:=J0 (c:=gZ n) (g:=⟨k,x,d⟩) xE.out;rw[hi]at CC;simp only[hi]at S8
  cases hf:find k fs with
  | some f =>
   obtain⟨w',h1,h2,h3⟩:=ND hm (fL xE.out _ _) (g:=⟨k,x,d⟩) (f:=f) (CC.trans hf)
   rw[AV (g:=⟨k,x,d⟩) (CC.trans hf)]at S8
   exact⟨w',h1,h2.perm S8,h3⟩
  | none =>
   obtain⟨w',h1,h2,h3⟩:=NE hm (fL xE.out _ _) (g:=⟨k,x,d⟩) (CC.trans hf)
   rw[uf (g:=⟨k,x,d⟩) (CC.trans hf)]at S8
   exact⟨w',h1,h2.perm S8,h3⟩
 clear hx
 clear H hk hi hh hl
 go_in
 go_wp2_with fail
 refine(HS.out _ H1.out).mono ?_
 rintro e w2 ⟨rfl,hb⟩
 have H2:=hid (H1.out.next hb)
 have p_:=hid (HX.out.next hb)
 clear hb H1 HX HS
 obtain⟨⟨S,M,htr⟩,_⟩:=H2.out.dr
 have c0:=htr.blk.cell 0 _ rfl
 clear htr
 go_wp2_with fail
 clear c0
 refine(Me.qX H2.out.mem t (i:Int) QJ.out).mono ?_
 rintro e w3 ⟨MY,rfl,hp,ho,hO⟩
 have H3:=hid (H2.out.left hp ho hO)
 have k8:=hid (p_.out.only ho EL.out)
 clear hp ho hO H2 p_
 obtain⟨⟨S,M,htr⟩,_⟩:=H3.out.dr
 obtain⟨gk,PF⟩:∃g,W.heap.size=g:=⟨_,rfl⟩
 rw[PF]at k8 MX ⊢
 have HQ:Hid (TQ w MY Ot mb B (ai ms t 6 (i:Int)) n S M fs k gk w3):=⟨H3.out,htr,k8.out,MX.out⟩
 clear htr PF k8 H3
 go_wp2_with fail
 refine iz (S:=λw'=>Hid (TQ w MY Ot mb B (ai ms t 6 (i:Int)) n S M fs k gk w')) 11 zk (hid HQ.out.drew) (λhH=>?_)
 refine eS 0 30 hH ?_
 refine eS 1 31 hH ?_
 refine eS 2 32 hH ?_
 try simp only[zq]
 refine dU (i:=3) (oi:=⟨some 33,_,_,_,_,_⟩) (v:=?v4) rfl zk zk zk zk zh (Or.inl ⟨rfl,?c4⟩) hH ?r4
 case c4=>(intro w' hS;have c1:=hS.out.tr.blk.cell 1 _ rfl;go_simp;(try with_reducible rfl))
 try simp only[zq]
 refine eS 4 34 hH ?_
 try simp only[zq]
 refine dU (i:=5) (oi:=⟨some 35,_,_,_,_,_⟩) (v:=?v6) rfl zk zk zk zk zh (Or.inl ⟨rfl,?c6⟩) hH ?r6
 case c6=>(intro w' hS;have hv:=hin;go_simp;(try with_reducible rfl))
 try simp only[zq]
 refine dU (i:=6) (oi:=⟨some 36,_,_,_,_,_⟩) (v:=?v7) rfl zk zk zk zk zh (Or.inl ⟨rfl,?c7⟩) hH ?r7
 case c7=>(intro w' hS;have c1:=hS.out.tr.row i hin;go_simp;(try with_reducible rfl))
 try simp only[zq]
 refine dU (i:=7) (oi:=⟨some 37,_,_,_,_,_⟩) (v:=?v8) rfl zk zk zk zk zh (Or.inl ⟨rfl,?c8⟩) hH ?r8
 case c8=>(intro w' hS;obtain⟨x0,x1,x2,x3,x4⟩:=Ky.bZ hS.out.key;go_simp;(try with_reducible rfl))
 try simp only[zq]
 refine eS 8 38 hH ?_
 refine eS 9 39 hH ?_
 refine eS 10 40 hH ?_
 try simp only[zq]
 refine bu (rs:=[11]) zk zs (eW.end_ rfl (λK hK=>?_))
 obtain⟨w4,hrun,UC,QK⟩:=UB.out _ _ (hH.out.tr.map i hin)
 have Sn:=hid (TM.right hH.out.tm (fs':=upd ⟨k,x,d⟩ fs) ⟨⟨S,M,hH.out.tr.turn hin QK UC (λj hj hne=>AZ (λe=>hne (e.symm.trans HI.out)) fs)⟩,NJ xE.out ⟨S6.out,UA.out.1,UA.out.2⟩,hH.out.tm.dr.2.2⟩ (QK.mono (λj e=>e▸hH.out.tr.om i hin)))
 go_simp
 refine hK.out _ _ ?_
 clear hK K
 try simp only[zq]
 refine gm zk ?_ _
 go_wp2_with fail
 go_ret
 exact⟨_,rfl,Sn.out⟩
theorem uF(H:TM w Om Ot mb B ms n fs W)(hl:ms.ls.length<=1000000000000)(t:Int)(k:ak.Ke)(hk:k.Ok)(x:Int)(d b:Bool)(ve:Int)(i:Nat)(hi:gZ n k=i)(hh:eR ms t (i:Int)=true)(hf:(∃f,find k fs=some f/\x=f.x/\d=f.dn/\b=true/\ve=0)\/(find k fs=none/\x=0/\d=false/\b=false/\ve=15)) :
  Calls Tryz.prog 170 #[ptr B,.int .i64 t,Au.iQ k] W (Td w Ot mb B (.int .i64 ve) (ai ms t 6 (i:Int)) n (drop k fs)):=by
 have HS:Hid (∀W',TM w Om Ot mb B ms n fs W'->Calls Tryz.prog 203 #[ptr B,.int .i64 t,Au.iQ k] W' λe w'=>e = .returned (.tuple #[.int .i64 (i:Int),.int .i64 0])/\Below W'.heap.size W' w'):=λW' h=>fw h t k hk i hi (i:Int) 0 (.inl ⟨hh,rfl,rfl⟩)
 have HX:=hid (aF.box W (Ky.eI k.a k.b k.p k.q k.r) 87)
 have H1:=hid (H.next (ae W (.cells (Ky.eI k.a k.b k.p k.q k.r) 87)))
 have xE:=hid H.VD
 have hin:i<n:=by have:=yB (n:=n) (by have:=H.dr.pos;omega) k;omega
 have HI:=hid hi
 have QJ:=hid hl
 have MX:Hid (¬Ot W.heap.size):=λe=>Nat.lt_irrefl _ (H.dr.C4 _ e)
 have EL:Hid (¬Om W.heap.size):=λe=>Nat.lt_irrefl _ (H.mem.lt _ e)
 have S6:=hid hk
 have HL:Hid (∀w' m,MapAt w' m (part n i fs)->(Instr.lookup 133 (.map (some m)) (Au.iQ k) true).run Tryz.prog w' = .ok (.tuple #[Py x d,.bool b]) w'):=λw' m hm=>by
  have CC:=kC xE.out (gZ n) k;rw[hi]at CC
  rcases hf with⟨f,hf,rfl,rfl,rfl,-⟩ | ⟨hf,rfl,rfl,rfl,-⟩
  ·exact xg hm (fL xE.out _ _) (CC.trans hf)
  ·exact xf hm (fL xE.out _ _) (CC.trans hf)
 have HD:Hid (b=true->∀w1 m,MapAt w1 m (part n i fs)->∃w2,(Builtin.delete_ #[133,87] 0 #[.map (some m),Au.iQ k]).run Tryz.prog w1 = .ok (.tuple #[]) w2/\MapAt w2 m (part n i (drop k fs))/\ar (· = m) w1 w2):=λhb w1 m hm=>by
  have CC:=kC xE.out (gZ n) k;rw[hi]at CC
  rcases hf with⟨f,hf,-,-,-,-⟩ | ⟨-,-,-,e,-⟩
  ·obtain⟨w2,h1,h2,h3⟩:=JO hm (fL xE.out _ _) (CC.trans hf) 0;exact⟨w2,h1,by rw[show part n i (drop k fs)=drop k (part n i fs)from xm _ _ _ _];exact h2,h3⟩
  ·rw[hb]at e;cases e
 have XU:Hid ((b=false->ve=15/\drop k fs=fs)/\(b=true->ve=0)):=by
  rcases hf with⟨f,hf,-,-,e,e2⟩ | ⟨hf,-,-,e,e2⟩
  ·exact⟨λh=>by(rw[h]at e;cases e),λ_=>e2⟩
  ·exact⟨λ_=>⟨e2,w_ hf⟩,λh=>by(rw[h]at e;cases e)⟩
 clear hf
 clear H hk hi hh hl
 go_in
 go_wp2_with fail
 refine(HS.out _ H1.out).mono ?_
 rintro e w2 ⟨rfl,hb⟩
 have H2:=hid (H1.out.next hb)
 have p_:=hid (HX.out.next hb)
 clear hb H1 HX HS
 obtain⟨⟨S,M,htr⟩,_⟩:=H2.out.dr
 have c0:=htr.blk.cell 0 _ rfl
 clear htr
 go_wp2_with fail
 clear c0
 refine(Me.qX H2.out.mem t (i:Int) QJ.out).mono ?_
 rintro e w3 ⟨MY,rfl,hp,ho,hO⟩
 have H3:=hid (H2.out.left hp ho hO)
 have k8:=hid (p_.out.only ho EL.out)
 clear hp ho hO H2 p_
 obtain⟨⟨S,M,htr⟩,_⟩:=H3.out.dr
 obtain⟨gk,PF⟩:∃g,W.heap.size=g:=⟨_,rfl⟩
 rw[PF]at k8 MX ⊢
 have HQ:Hid (TQ w MY Ot mb B (ai ms t 6 (i:Int)) n S M fs k gk w3):=⟨H3.out,htr,k8.out,MX.out⟩
 clear htr PF k8 H3
 go_wp2_with fail
 refine wp_region_held_drew (S:=λw'=>Hid (TQ w MY Ot mb B (ai ms t 6 (i:Int)) n S M fs k gk w')) zk (hid HQ.out.drew) (λhH=>?_)
 refine zr 0 29 hH ?_
 refine zr 1 30 hH ?_
 refine zr 2 31 hH ?_
 try simp only[zq]
 refine zqt 3 (some 32) ?v4 rfl rfl ?c4 hH ?r4
 case c4=>(intro w' hS;have c1:=hS.out.tr.blk.cell 1 _ rfl;go_simp;(try with_reducible rfl))
 try simp only[zq]
 refine zr 4 33 hH ?_
 try simp only[zq]
 refine zqt 5 (some 34) ?v6 rfl rfl ?c6 hH ?r6
 case c6=>(intro w' hS;have hv:=hin;go_simp;(try with_reducible rfl))
 try simp only[zq]
 refine zqt 6 (some 35) ?v7 rfl rfl ?c7 hH ?r7
 case c7=>(intro w' hS;have c1:=hS.out.tr.row i hin;go_simp;(try with_reducible rfl))
 try simp only[zq]
 refine zqt 7 (some 36) ?v8 rfl rfl ?c8 hH ?r8
 case c8=>(intro w' hS;obtain⟨x0,x1,x2,x3,x4⟩:=Ky.bZ hS.out.key;go_simp;(try with_reducible rfl))
 try simp only[zq]
 refine zqt 8 (some 37) ?v9 rfl rfl ?c9 hH ?r9
 case c9=>(intro w' hS;go_simp;rw[HL.out w' _ (hS.out.tr.map i hin)];simp only[Result.andThen_ok];(try with_reducible rfl))
 try simp only[zq]
 refine zr 9 28 hH ?_
 refine zr 10 38 hH ?_
 refine zr 11 39 hH ?_
 try simp only[zq]
 refine zrd 12 (λK hK=>?_)
 go_simp
 have e0:=(aF.box w3 #[.int .i64 0,.bool false] 187).drew.frozen 0
 have e1:=(aF.box w3 #[.int .i64 0,.bool false] 187).drew.frozen 1
 refine hK.out _ _ (hid (hH.out.next (ae _ _))) (λhH=>?_)
 clear hK K
 try simp only[zq]
 refine zrd 13 (λK hK=>?_)
 go_simp
 clear e0 e1
 refine hK.out _ _ (hid ((HQ.out.next (ae _ _)).drew)) (λhH=>?_)
 clear hK K
 have HE:=hid (aF.box w3 #[.int .i64 x,.bool d] 187).drew
 try simp only[zq]
 refine zr 14 10 hH ?_
 try simp only[zq]
 refine wpAnyH_done zk ?_ _
 have jx:=hH
 clear hH HE HQ
 obtain⟨w4,Sl⟩:∃v,(w3.alloc (.cells #[.int .i64 x,.bool d] 187)).drew=v:=⟨_,rfl⟩
 rw[Sl]at jx ⊢
 clear Sl
 cases b with
 | false =>
  have XV:=hid (XU.out.1 rfl)
  go_wp2_with fail
  go_ret
  exact⟨_,by rw[XV.out.1];rfl,by rw[XV.out.2];exact jx.out.tm⟩
 | true =>
  have XW:true=true:=rfl
  go_wp2_with fail
  refine wp_region_held_drew (S:=λw'=>aF w' gk (Ky.eI k.a k.b k.p k.q k.r) 87/\w'.cell? ⟨B,1,none⟩=some (.slice (some ⟨S,0,none⟩) n n)/\w'.cell? ⟨S,i,none⟩=some (.map (some (M i)))) zk (⟨jx.out.key.drew,jx.out.drew.tr.blk.cell 1 _ rfl,jx.out.drew.tr.row i hin⟩) (λhH=>?_)
  refine zr 0 42 hH ?_
  refine zr 1 43 hH ?_
  refine zr 2 44 hH ?_
  try simp only[zq]
  refine zqt 3 (some 45) ?v304 rfl rfl ?c304 hH ?r304
  case c304=>(intro w' hS;have c1:=hS.2.1;go_simp;(try with_reducible rfl))
  try simp only[zq]
  refine zr 4 46 hH ?_
  try simp only[zq]
  refine zqt 5 (some 47) ?v306 rfl rfl ?c306 hH ?r306
  case c306=>(intro w' hS;have hv:=hin;go_simp;(try with_reducible rfl))
  try simp only[zq]
  refine zqt 6 (some 48) ?v307 rfl rfl ?c307 hH ?r307
  case c307=>(intro w' hS;have c1:=hS.2.2;go_simp;(try with_reducible rfl))
  try simp only[zq]
  refine zqt 7 (some 49) ?v308 rfl rfl ?c308 hH ?r308
  case c308=>(intro w' hS;obtain⟨x0,x1,x2,x3,x4⟩:=Ky.bZ hS.1;go_simp;(try with_reducible rfl))
  try simp only[zq]
  refine zrd 8 (λK hK=>?_)
  obtain⟨w6,hrun,UC,QK⟩:=HD.out XW w4.drew _ (jx.out.drew.tr.map i hin)
  have NU:=jx.out.drew.tr.turn hin QK UC (λj hj hne=>by rw[show part n j (drop k fs)=part n j fs from yC (λe=>hne (e.symm.trans HI.out)) fs])
  have Sn:=hid (TM.right jx.out.drew.tm (fs':=drop k fs) ⟨⟨S,M,NU⟩,xE.out.drop k,jx.out.tm.dr.2.2⟩ (QK.mono (λj e=>e▸jx.out.tr.om i hin)))
  have hkb:=jx.out.drew.key.keep (QK.block _ jx.out.drew.key.lt (λe=>jx.out.nk (e▸jx.out.tr.om i hin)))
  go_simp
  refine hK.out _ _ (⟨hkb,NU.blk.cell 1 _ rfl,NU.row i hin⟩) (λhH=>?_)
  clear hK K
  clear hkb NU UC QK hrun
  try simp only[zq]
  refine wpAnyH_done zk ?_ _
  clear hH
  go_wp2_with fail
  go_ret
  exact⟨_,by rw[XU.out.2 XW];rfl,Sn.out⟩
end
end Tb
end Go.Proofs.YtbhnbcadgmagpaaGreatDoor
namespace Go.Proofs.YtbhnbcadgmagpaaGreatDoor
open Go.ChangeShapes Go.WideShapes Go.ChangeAt Go.RowKit Go.aN Go.Lib
namespace Tb
open bJ
open cB (bN)
open bg (Ms)
open Me (ptr)
theorem oW(x:Int)(w:World):Calls Tryz.prog 59 #[.int .u64 x] w λe w'=>e = .returned (.int .i64 (Au.vq x))/\w=w':=by
 have HO:=hid (λW=>Au.mA x W);generalize Au.vq x=y at HO;go_in;go_wp2_with (go_at_call 92;refine(HO.out _).mono ?_;rintro e w' ⟨rfl,rfl⟩);go_ret;exact⟨rfl,rfl⟩
theorem tZ{z:Int}(h1:1<=z)(h2:z<=4096):(Au.vq z==1)=bN z:=by
 have e:z=((⟨z.toNat,by omega⟩:Fin 4097).val:Int):=zt;have h:=Au.B_ ⟨z.toNat,by omega⟩
 rwa [← e]at h
theorem D1:(Tryz.prog.info? 133).map (λi=>(i.zero,i.size,i.bytes))=some (some (.map none),1,8):=zk
def vr(n j:Nat)(M:Nat->Nat):List Value:=(List.range n).map λi=>if i<j then .map (some (M i))else .map none
theorem tH{n j:Nat}{M:Nat->Nat}{i:Nat}(hi:i<n):(vr n j M)[i]? = some (if i<j then .map (some (M i))else .map none):=by
 unfold vr;rw[List.getElem?_map,List.getElem?_range hi];rfl
theorem Hu(n:Nat)(M:Nat->Nat):(madeCells (Value.map none).cells (n*1)).toList=vr n 0 M:=by
 rw[show(Value.map none).cells = #[.map none]from rfl,toList_madeCells_one];unfold vr;apply List.ext_getElem?;intro i;simp[List.getElem?_replicate,List.getElem?_range];by_cases h:i<n
 ·simp[h,List.getElem?_range]
 ·simp[h,List.getElem?_eq_none]
def Hv(M:Nat->Nat)(j m:Nat)(i:Nat):Nat:=if i=j then m else M i
theorem LO{n j m:Nat}{M:Nat->Nat}(hj:j<n):(vr n j M).toArray.setIfInBounds j (.map (some m))=(vr n (j+1) (Hv M j m)).toArray:=by
 rw[List.setIfInBounds_toArray];congr 1;apply List.ext_getElem?;intro i;by_cases hi:i<n
 ·rw[List.getElem?_set,tH (j:=j+1) hi];by_cases e:j=i
  ·subst e;rw[if_pos rfl,if_pos (by unfold vr;simpa using hj),if_pos zo];rw[show Hv M j m j=m from if_pos rfl]
  ·rw[if_neg e,tH hi];rw[show Hv M j m i=M i from if_neg (λh=>e h.symm)];by_cases h2:i<j
   ·rw[if_pos h2,if_pos zo]
   ·rw[if_neg h2,if_neg zo]
 ·rw[List.getElem?_eq_none (by simp[vr];omega),List.getElem?_eq_none (by simp[vr];omega)]
structure NW(w0:World)(mb B n S:Nat)(M:Nat->Nat)(j:Nat)(W:World):Prop where
 blk:aF W B #[ptr mb,.slice (some ⟨S,0,none⟩) n n] 131
 row:aF W S (vr n j M).toArray 133
 map:∀i,i<j->MapAt W (M i) []
 inj:∀i i',i<j->i'<j->M i=M i'->i=i'
 ns:S≠B
 nm:∀i,i<j->M i≠B/\M i≠S
 nb:w0.heap.size<=B
 nS:w0.heap.size<=S
 nM:∀i,i<j->w0.heap.size<=M i
 az:Below w0.heap.size w0 W
section
variable {w0 W:World}{mb B n S j:Nat}{M:Nat->Nat}
theorem NW.step(H:NW w0 mb B n S M j W)(hj:j<n):NW w0 mb B n S (Hv M j W.heap.size) (j+1) ((W.alloc (.map #[] 0)).setCell ⟨S,j,none⟩ (.map (some W.heap.size))):=by
 have hS:=H.row.lt;have hB:=H.blk.lt;have qg:∀i,i<j->Hv M j W.heap.size i=M i:=λi hi=>if_neg zo;have Ca:Hv M j W.heap.size j=W.heap.size:=if_pos rfl;have WJ:∀i,i<j->M i<W.heap.size:=λi hi=>(H.map i hi).lt;have ho:∀g,g≠S->((W.alloc (.map #[] 0)).setCell ⟨S,j,none⟩ (.map (some W.heap.size))).heap[g]? = (W.alloc (.map #[] 0)).heap[g]?:=λg hg=>Below.heap_setCell _ _ _ _ hg;refine⟨?_,?_,λi hi=>?_,λi i' hi hi' e=>?_,H.ns,λi hi=>?_,H.nb,H.nS,λi hi=>?_,?_⟩
 ·exact(H.blk.alloc _).keep (ho B H.ns.symm)
 ·have:=(H.row.alloc (.map #[] 0)).set' j (.map (some W.heap.size)) (LO (M:=M) (m:=W.heap.size) hj);exact this
 ·by_cases e:i=j
  ·subst e;rw[Ca];exact(MapAt.new W).keep (ho _ zo)
  ·rw[qg i zo];exact(H.map i zo).keep ((ho _ (H.nm i zo).2).trans (Below.heap_alloc _ _ _ (WJ i zo)))
 ·by_cases e1:i=j <;> by_cases e2:i'=j
  ·omega
  ·subst e1;rw[Ca,qg i' zo]at e;have:=WJ i' zo;omega
  ·subst e2;rw[Ca,qg i zo]at e;have:=WJ i zo;omega
  ·rw[qg i zo,qg i' zo]at e;exact H.inj i i' zo zo e
 ·by_cases e:i=j
  ·subst e;rw[Ca];omega
  ·rw[qg i zo];exact H.nm i zo
 ·by_cases e:i=j
  ·subst e;rw[Ca];exact H.az.size
  ·rw[qg i zo];exact H.nM i zo
 ·exact(H.az.alloc H.az.size _).setCell (p:=⟨S,j,none⟩) (by have:=H.nS;simpa using this) _
theorem NW.done(H:NW w0 mb B n S M n W)(hn:bN (n:Int)=true):UW W (λj=>w0.heap.size<=j/\j<W.heap.size) B mb n []/\∀j,(w0.heap.size<=j/\j<W.heap.size)->w0.heap.size<=j:=by
 refine⟨⟨⟨S,M,H.blk,λi hi=>?_,λi hi=>H.map i hi,H.inj,H.ns,H.nm,⟨H.nb,H.blk.lt⟩,⟨H.nS,H.row.lt⟩,λi hi=>⟨H.nM i hi,(H.map i hi).lt⟩,λj hj=>hj.2⟩,dN.nil,hn⟩,λj hj=>hj.1⟩
 have:=H.row.cell i (.map (some (M i))) (by
  rw[List.getElem?_toArray,tH hi,if_pos hi])
 exact this
end
theorem zE(w:World)(mb n:Nat)(hp:bN (n:Int)=true):Calls Tryz.prog 33 #[ptr mb,.int .i64 (n:Int)] w λe w'=>∃O B,e = .returned (ptr B)/\UW w' O B mb n []/\Below w.heap.size w w'/\∀j,O j->w.heap.size<=j:=by
 have hb:=cB.ko hp;have HP:=hid (tZ hb.1 hb.2);have HO:=hid (λW=>oW (n:Int) W)
 have hw:IntKind.u64.wrap (n:Int)=n:=by simp[IntKind.wrap,IntKind.bits,IntKind.signed];omega
 generalize Au.vq (n:Int)=oz at HP HO;have hq:(oz==1)=true:=HP.out.trans hp;have Rc:=hid hp;obtain⟨i0,hi0,hz0,hz1,jc⟩:=info_parts D1;have HI:Hid (Tryz.prog.info? 133=some i0/\i0.zero=some (.map none)/\i0.size=1/\i0.bytes=8):=⟨hi0,hz0,hz1,jc⟩;have d1:decide ((n:Int)<1)=false:=decide_eq_false zo;have d2:decide ((4096:Int)<n)=false:=decide_eq_false zo;have Sf:n<=4096:=zo;clear hp HP hi0 hz0 hz1 jc hb;go_in;go_wp2_with fail;refine(HO.out _).mono ?_;rintro e w1 ⟨rfl,rfl⟩;go_wp2_with (at_make;refine wpList_make_full _ rfl (.tmp 24) (.tmp 24) _ rfl w.heap.size 133 i0 _ 1 Tryz.underlying129 HI.out.1 HI.out.2.1 HI.out.2.2.1 .i64 .i64 (n:Int) (n:Int) n rfl rfl rfl rfl (by rw[HI.out.2.2.2];omega) (by unfold maxLen;omega) zl ?_;intro w1 hown zS;rw[Hu n (λ_=>0)]at hown;have HG:=hid (Me.xk hown);have HB:=hid ((Below.refl w.heap.size w).grown zS zl (λk e=>by cases e));clear hown zS)
 have h0:NW w mb w1.heap.size n w.heap.size (λ_=>0) 0 (w1.alloc (.cells #[ptr mb,.slice (some ⟨w.heap.size,0,none⟩) n n] 131)):=by
  have hr:aF w1 w.heap.size (vr n 0 (λ_=>0)).toArray 133:=HG.out;have hlt:=hr.lt;exact⟨aF.box w1 _ _,hr.alloc _,λi hi=>absurd hi zo,λi i' hi=>absurd hi zo,by omega,λi hi=>absurd hi zo,HB.out.size,Nat.le_refl _,λi hi=>absurd hi zo,HB.out.alloc HB.out.size _⟩
 have H0:=hid h0;have Fh:=hid (h0.blk.cell 1 _ rfl);obtain⟨B,hB⟩:∃g,w1.heap.size=g:=⟨_,rfl⟩;obtain⟨S,hS⟩:∃g,w.heap.size=g:=⟨_,rfl⟩;obtain⟨w2,uO⟩:∃v,w1.alloc (.cells #[ptr mb,.slice (some ⟨w.heap.size,0,none⟩) n n] 131)=v:=⟨_,rfl⟩;rw[uO]at H0 Fh ⊢;rw[hS]at H0 Fh ⊢;rw[hB]at H0 Fh ⊢;have HSS:Hid (w.heap.size=S):=hS;clear uO hS hB h0 HG HB;have c1:=Fh.out;go_wp2_with fail;go_loopw [33] (λvi wr=>∃(j:Nat) (M:Nat->Nat),vi = .int .i64 (j:Int)/\j<=n/\Hid (NW w mb B n S M j wr)) (λvi _=>n - (RowKit.intOf vi).toNat)
 case atStart=>exact⟨0,_,rfl,Nat.zero_le _,H0⟩
 case round =>
  obtain⟨j,M,rfl,hj,HN⟩:=hrel;clear c1 Fh H0;by_cases h1:j<n
  ·have c1:=HN.out.blk.cell 1 _ rfl;have Kw:=hid (HN.out.step h1);have PR:=hid ((HN.out.blk.alloc (.map #[] 0)).cell 1 _ rfl);have hcell:=(HN.out.row.alloc (.map #[] 0)).cell j (.map none) (by rw[List.getElem?_toArray,tH h1,if_neg (Nat.lt_irrefl _)]);have hfr:=(HN.out.row.alloc (.map #[] 0)).frozen j;have hmm:∀w,(Instr.makeMap 133 none).run Tryz.prog w = .ok (.map (some w.heap.size)) (w.alloc (.map #[] 0)):=λw=>rfl;go_wp2_with fail;go_roundw
   case rel=>exact⟨j+1,_,by go_num,by omega,Kw⟩
   case measure=>simp[RowKit.intOf];omega
  ·obtain rfl:j=n:=zo;have c1:=HN.out.blk.cell 1 _ rfl;go_wp2_with fail;go_ret;exact⟨_,B,rfl,(HN.out.done Rc.out).1,HN.out.az,(HN.out.done Rc.out).2⟩
end Tb
end Go.Proofs.YtbhnbcadgmagpaaGreatDoor
