import Derived.Test.YtbhnbcadgmagpaaGreatDoorBig
import Derived.Test.YtbhnbcadgmagpaaGreatDoorJ4
import Derived.Test.YtbhnbcadgmagpaaGreatDoorJ6
import Derived.Test.YtbhnbcadgmagpaaGreatDoorJ7
import Derived.Test.YtbhnbcadgmagpaaGreatDoorJ9
import Derived.Test.YtbhnbcadgmagpaaGreatDoorJ1
import Derived.Test.YtbhnbcadgmagpaaGreatDoorJ3
import Derived.Test.YtbhnbcadgmagpaaGreatDoorRows
set_option linter.unusedVariables false
set_option linter.unusedSimpArgs false
set_option maxRecDepth 100000
namespace Go.Proofs.YtbhnbcadgmagpaaGreatDoor
namespace ak
open cB (lU zZ z7 z8)
structure Ke where
 a:Nat
 b:Nat
 p:Nat
 q:Nat
 r:Nat
 deriving DecidableEq
structure Ke.Ok(k:Ke):Prop where
 a:k.a<4294967296
 b:k.b<4294967296
 p:k.p<65536
 q:k.q<65536
 r:k.r<256
theorem Ke.ext'{x y:Ke}(h:x.a=y.a/\x.b=y.b/\x.p=y.p/\x.q=y.q/\x.r=y.r):x=y:=by
 cases x;cases y;obtain⟨h1,h2,h3,h4,h5⟩:=h;simp_all
def Ke.num(k:Ke):Nat:=zZ k.a k.b k.p k.q k.r
def Ke.less(x y:Ke):Bool:=lU x.a x.b x.p x.q x.r y.a y.b y.p y.q y.r
theorem Ke.pP{x y:Ke}(hx:x.Ok)(hy:y.Ok):x.less y=decide (x.num<y.num):=z7 hx.a hx.b hx.p hx.q hy.a hy.b hy.p hy.q
theorem Ke.aaL{x y:Ke}(hx:x.Ok)(hy:y.Ok)(h:x.num=y.num):x=y:=by
 have:=z8 hx.a hx.b hx.p hx.q hy.a hy.b hy.p hy.q h;exact Ke.ext' ⟨this.1,this.2.1,this.2.2.1,this.2.2.2.1,this.2.2.2.2⟩
structure Fl where
 k:Ke
 c:Int
 n:Int
 s:Int
 dn:Bool
structure Fl.Ok(f:Fl):Prop where
 k:f.k.Ok
 fit:eL.Fit f.c f.n f.s
 lo:1<=f.s
 hi:f.s<=9
def Jz(fs:List Fl):Prop:=fs.Pairwise (λx y=>x.k.num<y.k.num)
structure dN(fs:List Fl):Prop where
 ok:∀f∈fs,f.Ok
 wZ:Jz fs
theorem dN.nil:dN []:=⟨λf h=>absurd h List.not_mem_nil,List.Pairwise.nil⟩
def find(k:Ke)(fs:List Fl):Option Fl:=fs.find? (λf=>decide (f.k=k))
def idx(k:Ke)(fs:List Fl):Option Nat:=fs.findIdx? (λf=>decide (f.k=k))
def drop(k:Ke)(fs:List Fl):List Fl:=fs.filter (λf=>decide (f.k≠k))
def put(g:Fl)(fs:List Fl):List Fl:=fs.map (λf=>if f.k=g.k then g else f)
def ins(g:Fl):List Fl->List Fl
 | []=>[g]
 | f::fs=>if f.k.num<g.k.num then f::ins g fs else g::f::fs
theorem b6{k:Ke}{fs:List Fl}{f:Fl}(h:find k fs=some f):f∈fs/\f.k=k:=by
 unfold find at h;exact⟨List.mem_of_find?_eq_some h,by simpa using List.find?_some h⟩
theorem bP{k:Ke}{fs:List Fl}(h:find k fs=none):∀f∈fs,f.k≠k:=by
 unfold find at h;rw[List.find?_eq_none]at h;intro f hf;simpa using h f hf
theorem eZ{f:Fl}{fs:List Fl}:Jz (f::fs)↔(∀g∈fs,f.k.num<g.k.num)/\Jz fs:=List.pairwise_cons
theorem dN.tail{f:Fl}{fs:List Fl}(h:dN (f::fs)):dN fs:=⟨λg hg=>h.ok g (List.mem_cons_of_mem _ hg),(eZ.1 h.wZ).2⟩
theorem fJ{k:Ke}{fs:List Fl}{f:Fl}:f∈drop k fs↔f∈fs/\f.k≠k:=by unfold drop;simp
theorem dN.drop{fs:List Fl}(h:dN fs)(k:Ke):dN (drop k fs) :=
 ⟨λf hf=>h.ok f (fJ.1 hf).1,List.Pairwise.filter _ h.wZ⟩
theorem dN.split{fs:List Fl}(h:dN fs){k:Ke}{f:Fl}(hf:find k fs=some f):∃xs ys,fs=xs++f::ys/\idx k fs=some xs.length/\ak.drop k fs=xs++ys/\(∀g,g.k=k->put g fs=xs++g::ys) ∧
  (∀g∈xs,g.k≠k)/\(∀g∈ys,g.k≠k):=by
 obtain⟨hm,hk⟩:=b6 hf
 obtain⟨xs,ys,e⟩:=List.append_of_mem hm
 have hs:=h.wZ
 unfold Jz at hs
 rw[e,List.pairwise_append,List.pairwise_cons]at hs
 obtain⟨_,⟨h2,_⟩,h3⟩:=hs
 have nx:∀g∈xs,g.k≠k:=λg hg e'=>by have:=h3 g hg f List.mem_cons_self;rw[e',hk]at this;omega
 have ny:∀g∈ys,g.k≠k:=λg hg e'=>by have:=h2 g hg;rw[e',hk]at this;omega
 refine⟨xs,ys,e,?_,?_,?_,nx,ny⟩
 ·unfold idx;rw[e,List.findIdx?_append,List.findIdx?_eq_none_iff.2 (λg hg=>by simpa using nx g hg)];simp[List.findIdx?_cons,hk]
 ·unfold ak.drop;rw[e,List.filter_append,List.filter_cons,if_neg (by simpa using hk),List.filter_eq_self.2 (λg hg=>by simpa using nx g hg),List.filter_eq_self.2 (λg hg=>by simpa using ny g hg)]
 ·intro g hg;unfold ak.put;rw[e,List.map_append,List.map_cons,if_pos (by rw[hk,hg])]
  have e1:xs.map (λf=>if f.k=g.k then g else f)=xs:=by
   exact(List.map_congr_left (g:=id) λx hx=>by rw[if_neg (by rw[hg];exact nx x hx)];rfl).trans (List.map_id xs)
  have e2:ys.map (λf=>if f.k=g.k then g else f)=ys:=by
   exact(List.map_congr_left (g:=id) λx hx=>by rw[if_neg (by rw[hg];exact ny x hx)];rfl).trans (List.map_id ys)
  rw[e1,e2]
theorem dN.tW{fs:List Fl}(h:dN fs){k:Ke}{f:Fl}(hf:find k fs=some f):(ak.drop k fs).length+1=fs.length:=by
 obtain⟨xs,ys,e,_,e2,_⟩:=h.split hf;rw[e2,e];simp;omega
theorem yo{g f:Fl}{fs:List Fl}(h:f∈put g fs):f=g\/f∈fs:=by
 unfold put at h;obtain⟨x,hx,rfl⟩:=List.mem_map.1 h;split
 ·exact .inl rfl
 ·exact .inr hx
theorem tX(g:Fl)(fs:List Fl):(put g fs).map (·.k)=fs.map (·.k):=by
 unfold put;rw[List.map_map];refine List.map_congr_left λx _=>?_;show(if x.k=g.k then g else x).k=x.k;split
 ·rename_i h;exact h.symm
 ·rfl
theorem yp(g:Fl)(fs:List Fl):(put g fs).length=fs.length:=by unfold put;rw[List.length_map]
theorem dN.put{fs:List Fl}(h:dN fs){g:Fl}(hg:g.Ok):dN (put g fs):=by
 refine⟨λf hf=>?_,?_⟩
 ·rcases yo hf with rfl | hf
  ·exact hg
  ·exact h.ok f hf
 ·have hs:=h.wZ;unfold Jz at hs ⊢
  have e:∀l:List Fl,l.Pairwise (λx y=>x.k.num<y.k.num)↔(l.map (·.k)).Pairwise (λx y=>x.num<y.num):=λl=>by rw[List.pairwise_map]
  rw[e,tX,← e];exact hs
theorem gC(g:Fl):∀fs:List Fl,(ins g fs).Perm (g::fs):=by
 intro fs
 induction fs with
 | nil=>exact List.Perm.refl _
 | cons f fs ih =>
  unfold ins
  split
  ·exact(ih.cons f).trans (List.Perm.swap _ _ _)
  ·exact List.Perm.refl _
theorem tA(g:Fl)(fs:List Fl):(ins g fs).length=fs.length+1:=(gC g fs).length_eq
theorem jO{g f:Fl}{fs:List Fl}:f∈ins g fs↔f=g\/f∈fs:=by rw[(gC g fs).mem_iff,List.mem_cons]
theorem dN.ins{fs:List Fl}(h:dN fs){g:Fl}(hg:g.Ok)(hn:find g.k fs=none):dN (ins g fs):=by
 refine⟨λf hf=>?_,?_⟩
 ·rcases jO.1 hf with rfl | hf
  ·exact hg
  ·exact h.ok f hf
 ·have hne:=bP hn;clear hn
  induction fs with
  | nil=>exact List.pairwise_singleton _ _
  | cons f fs ih =>
   obtain⟨h1,h2⟩:=eZ.1 h.wZ
   unfold ak.ins
   split
   ·rename_i hlt;refine eZ.2 ⟨λx hx=>?_,ih h.tail λx hx=>hne x (List.mem_cons_of_mem _ hx)⟩
    rcases jO.1 hx with rfl | hx
    ·exact hlt
    ·exact h1 x hx
   ·rename_i hlt
    have hf:g.k.num<f.k.num:=by
     rcases Nat.lt_trichotomy g.k.num f.k.num with c | c | c
     ·exact c
     ·exact absurd (Ke.aaL hg.k (h.ok f List.mem_cons_self).k c).symm (hne f List.mem_cons_self)
     ·exact absurd c hlt
    refine eZ.2 ⟨λx hx=>?_,h.wZ⟩
    rcases List.mem_cons.1 hx with rfl | hx
    ·exact hf
    ·have:=h1 x hx;omega
end ak
open Go.ChangeShapes Go.WideShapes Go.ChangeAt Go.RowKit Go.aN Go.Lib
namespace Au
open ak
open Go.ChangeMaps (setBlock)
abbrev iQ(k:Ke):Value:=.agg #[.int .u32 (k.a:Int),.int .u32 (k.b:Int),.int .u16 (k.p:Int),.int .u16 (k.q:Int),.int .u8 (k.r:Int)]
abbrev Py(x:Int)(d:Bool):Value:=.agg #[.int .u64 x,.bool d]
abbrev CW(f:Fl):Value:=Py (eL.gI f.c f.n f.s) f.dn
def kv(f:Fl):Value×Value:=(iQ f.k,CW f)
def n7(e:MapEntry):Value×Value:=(e.key,e.val)
theorem EF:(match Tryz.prog.underlying 87 with | some (.array _ _) | some (.struct _)=>true | _=>false)=true:=zk
theorem AH(n:Nat)(em:Bool)(x:Int)(w:World):(Instr.checkKey em (n+1) 73 (.int .u32 x)).run Tryz.prog w = .ok () w:=by
 rw[Instr.checkKey];simp only[Sem.run_bind,run_underlying Tryz.underlying73,Result.andThen_ok];rfl
theorem AJ(n:Nat)(em:Bool)(x:Int)(w:World):(Instr.checkKey em (n+1) 76 (.int .u16 x)).run Tryz.prog w = .ok () w:=by
 rw[Instr.checkKey];simp only[Sem.run_bind,run_underlying Tryz.underlying76,Result.andThen_ok];rfl
theorem NB(n:Nat)(em:Bool)(x:Int)(w:World):(Instr.checkKey em (n+1) 5 (.int .u8 x)).run Tryz.prog w = .ok () w:=by
 rw[Instr.checkKey];simp only[Sem.run_bind,run_underlying Tryz.underlying5,Result.andThen_ok];rfl
theorem JK(n:Nat)(em:Bool)(x y:Int)(w:World):(Instr.checkKey em (n+2) 84 (.agg #[.int .u32 x,.int .u32 y])).run Tryz.prog w = .ok () w:=by
 obtain⟨i4,h4⟩:=Option.isSome_iff_exists.1 Ky.AE
 have hp:∀j,j=0\/j=1->∃a,(part 73 #[.int .u32 x,.int .u32 y] (j*1)).run Tryz.prog w = .ok a w/\(Instr.checkKey em (n+1) 73 a).run Tryz.prog w = .ok () w:=by
  rintro j (rfl | rfl)
  ·exact⟨.int .u32 x,by simp[go_sem],AH n em x w⟩
  ·exact⟨.int .u32 y,by simp[go_sem],AH n em y w⟩
 obtain⟨a0,p0,q0⟩:=hp 0 (.inl rfl);obtain⟨a1,p1,q1⟩:=hp 1 (.inr rfl);rw[Instr.checkKey];simp only[Sem.run_bind,run_underlying Ky.JI,Result.andThen_ok,Std.Legacy.Range.forIn_eq_forIn_range',Std.Legacy.Range.size,Nat.sub_zero,Nat.add_one_sub_one,Nat.div_one];simp only[List.range',List.forIn_cons,List.forIn_nil,Sem.run_bind,run_sizeOf w h4,Ky.nC,Result.andThen_ok,p0,q0,p1,q1,Sem.run_pure]
theorem JL(n:Nat)(em:Bool)(x y:Int)(w:World):(Instr.checkKey em (n+2) 85 (.agg #[.int .u16 x,.int .u16 y])).run Tryz.prog w = .ok () w:=by
 obtain⟨i4,h4⟩:=Option.isSome_iff_exists.1 Ky.AG
 have hp:∀j,j=0\/j=1->∃a,(part 76 #[.int .u16 x,.int .u16 y] (j*1)).run Tryz.prog w = .ok a w/\(Instr.checkKey em (n+1) 76 a).run Tryz.prog w = .ok () w:=by
  rintro j (rfl | rfl)
  ·exact⟨.int .u16 x,by simp[go_sem],AJ n em x w⟩
  ·exact⟨.int .u16 y,by simp[go_sem],AJ n em y w⟩
 obtain⟨a0,p0,q0⟩:=hp 0 (.inl rfl);obtain⟨a1,p1,q1⟩:=hp 1 (.inr rfl);rw[Instr.checkKey];simp only[Sem.run_bind,run_underlying Ky.JJ,Result.andThen_ok,Std.Legacy.Range.forIn_eq_forIn_range',Std.Legacy.Range.size,Nat.sub_zero,Nat.add_one_sub_one,Nat.div_one];simp only[List.range',List.forIn_cons,List.forIn_nil,Sem.run_bind,run_sizeOf w h4,Ky.nD,Result.andThen_ok,p0,q0,p1,q1,Sem.run_pure]
theorem aar(em:Bool)(k:Ke)(w:World):(Instr.checkKey em 10000 87 (iQ k)).run Tryz.prog w = .ok () w:=by
 rw[show(10000:Nat)=9997+2+1 from rfl,Instr.checkKey];simp only[Sem.run_bind,run_underlying Ky.xe,Result.andThen_ok];rw[← Array.forIn_toList];have hl:=Ky.JH;have hn:=Ky.AD;generalize (Tryz.prog.fieldsOf 87).toList=l at hl hn ⊢
 rcases l with _ | ⟨f1,_ | ⟨f2,_ | ⟨f3,_ | ⟨f4,l⟩⟩⟩⟩ <;> simp at hl hn
 obtain⟨⟨t1,o1⟩,⟨t2,o2⟩,t3,o3⟩:=hl;obtain⟨n1,n2,n3⟩:=hn;obtain⟨a,b,p,q,r⟩:=k
 have c1:(part 84 (Ky.eI a b p q r) 0).run Tryz.prog w = .ok (.agg #[.int .u32 a,.int .u32 b]) w:=by simp[go_sem]
 have c2:(part 85 (Ky.eI a b p q r) 2).run Tryz.prog w = .ok (.agg #[.int .u16 p,.int .u16 q]) w:=by simp[go_sem]
 have c3:(part 5 (Ky.eI a b p q r) 4).run Tryz.prog w = .ok (.int .u8 r) w:=by simp[go_sem]
 simp only[List.forIn_cons,List.forIn_nil,Sem.run_bind,n1,n2,n3,ne_eq,not_false_eq_true,if_true,t1,t2,t3,o1,o2,o3,c1,c2,c3,Result.andThen_ok,Sem.run_pure,JK,JL,NB]
theorem JM(x y:Ke)(w:World):(Op.equal 87 (iQ x) (iQ y)).run Tryz.prog w = .ok (decide (x=y)) w:=by
 show(Op.equalIn 10000 87 _ _).run Tryz.prog w=_;rw[Ky.SN];congr 1;refine decide_eq_decide.2 ⟨λh=>Ke.ext' zo,λh=>by subst h;simp⟩
theorem FW(k:Ke):Instr.sameBits 10000 (iQ k) (iQ k)=true:=by simp[Instr.sameBits]
theorem FX(k:Ke)(w:World):(Instr.keyThatStays (iQ k) (iQ k)).run Tryz.prog w = .ok (iQ k) w:=by
 rw[Instr.keyThatStays,FW];rfl
def MapAt(w:World)(M:Nat)(fs:List Fl):Prop :=
 ∃(es:Array MapEntry) (clock:Nat) (gs:List Fl),w.heap[M]? = some (.map es clock)/\es.toList.map n7=gs.map kv/\gs.Perm fs/\(es.toList.map (·.born)).Nodup/\∀x∈es.toList,x.born<clock
theorem MapAt.lt{w:World}{M:Nat}{fs:List Fl}(H:MapAt w M fs):M<w.heap.size:=by
 obtain⟨es,clock,gs,h,_⟩:=H;exact(Array.getElem?_eq_some_iff.1 h).1
theorem MapAt.keep{w w':World}{M:Nat}{fs:List Fl}(H:MapAt w M fs)(h:w'.heap[M]? = w.heap[M]?):MapAt w' M fs:=by
 obtain⟨es,clock,gs,h0,hr⟩:=H;exact⟨es,clock,gs,h.trans h0,hr⟩
theorem MapAt.new(w:World):MapAt (w.alloc (.map #[] 0)) w.heap.size [] :=
 ⟨#[],0,[],MapKept.heap_alloc w _ |>.1,rfl,List.Perm.refl _,by simp,by simp⟩
end Au
namespace Au
def o1(x:Int):Int:=IntKind.u64.wrap (bits .and .u64 (x / 2) 6148914691236517205+bits .and .u64 x 6148914691236517205)
def o2(x:Int):Int:=IntKind.u64.wrap (bits .and .u64 (x / 4) 3689348814741910323+bits .and .u64 x 3689348814741910323)
def o3(x:Int):Int:=bits .and .u64 (IntKind.u64.wrap (x / 16+x)) 1085102592571150095
def o4(x:Int):Int:=IntKind.u64.wrap (x+x / 256)
def o5(x:Int):Int:=IntKind.u64.wrap (x+x / 65536)
def o6(x:Int):Int:=IntKind.u64.wrap (x+x / 4294967296)
def o7(x:Int):Int:=bits .and .i64 (wrap64 x) 127
def vq(x:Int):Int:=o7 (o6 (o5 (o4 (o3 (o2 (o1 x))))))
theorem mA(x:Int)(w:World):Calls Tryz.prog 92 #[.int .u64 x] w λe w'=>e = .returned (.int .i64 (vq x))/\w=w':=by
 unfold vq;have h1:IntKind.u64.wrap (bits .and .u64 (x / 2) 6148914691236517205+bits .and .u64 x 6148914691236517205)=o1 x:=rfl;generalize o1 x=y1 at h1;have h2:IntKind.u64.wrap (bits .and .u64 (y1 / 4) 3689348814741910323+bits .and .u64 y1 3689348814741910323)=o2 y1:=rfl;generalize o2 y1=y2 at h2;have h3:bits .and .u64 (IntKind.u64.wrap (y2 / 16+y2)) 1085102592571150095=o3 y2:=rfl;generalize o3 y2=y3 at h3;have h4:IntKind.u64.wrap (y3+y3 / 256)=o4 y3:=rfl;generalize o4 y3=y4 at h4;have h5:IntKind.u64.wrap (y4+y4 / 65536)=o5 y4:=rfl;generalize o5 y4=y5 at h5;have h6:IntKind.u64.wrap (y5+y5 / 4294967296)=o6 y5:=rfl;generalize o6 y5=y6 at h6;have h7:bits .and .i64 (wrap64 y6) 127=o7 y6:=rfl;generalize o7 y6=y7 at h7;go_in;go_wp2_with fail;go_ret;exact⟨rfl,rfl⟩
theorem B_:∀n:Fin 4097,(vq (n.val:Int)==1)=cB.bN (n.val:Int):=by decide +kernel
end Au
end Go.Proofs.YtbhnbcadgmagpaaGreatDoor
