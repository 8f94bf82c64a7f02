import Derived.Test.YtbhnbcadgmagpaaGreatDoorBig
import Derived.Test.YtbhnbcadgmagpaaGreatDoorJ1
import Derived.Test.YtbhnbcadgmagpaaGreatDoorRows
import Derived.Test.YtbhnbcadgmagpaaGreatDoorJ3
set_option linter.unusedVariables false
set_option linter.unusedSimpArgs false
set_option maxHeartbeats 4000000
set_option maxRecDepth 100000
namespace kD
abbrev Step:=Int×Bool×Int×Int
def find(s:Int)(r:Bool)(k:Int):List Step->Nat->Option (Nat×Int)
 | [],_=>none
 | x::l,i=>if s=x.1/\r=x.2.1/\k=x.2.2.1 then some (i,x.2.2.2)else find s r k l (i+1)
def p0:List Step:=[]
def p1:List Step:=p0++[(1,false,1,1)]
def p2:List Step:=p1++[(1,true,2,2)]
def p3:List Step:=p2++[(2,false,1,2)]
def p4:List Step:=p3++[(2,true,2,2)]
def p5:List Step:=p4++[(2,false,3,3)]
def p6:List Step:=p5++[(2,false,4,4)]
def p7:List Step:=p6++[(3,false,3,3)]
def p8:List Step:=p7++[(3,true,3,3)]
def p9:List Step:=p8++[(3,false,4,4)]
def Vo:List Step:=p9++[(3,true,4,5)]
def Vp:List Step:=Vo++[(4,false,3,4)]
def Vq:List Step:=Vp++[(4,true,3,4)]
def Vr:List Step:=Vq++[(4,false,4,4)]
def Vs:List Step:=Vr++[(4,true,4,6)]
def Vt:List Step:=Vs++[(5,false,3,5)]
def Vu:List Step:=Vt++[(5,true,3,5)]
def Vv:List Step:=Vu++[(5,false,4,6)]
def Vw:List Step:=Vv++[(5,true,4,5)]
def Vx:List Step:=Vw++[(6,false,3,6)]
def Vy:List Step:=Vx++[(6,true,3,6)]
def Vz:List Step:=Vy++[(6,false,4,6)]
def I2:List Step:=Vz++[(6,true,4,6)]
def S0(s:Int)(r:Bool)(k:Int):Int:=((find s r k I2 0).map (·.2)).getD 0
def Sk(s:Int)(r:Bool)(k:Int):Bool:=(find s r k I2 0).isSome
def qf(f:Nat):Nat:=if f &&& 23=2 then 1 else if f &&& 23=18 then 2 else if f &&& 23=16 then 3 else if f &&& 23=17 then 4 else if f &&& 23=4 then 5 else if f &&& 23=20 then 5 else 0
def Uv(s:Int)(r:Bool)(k:Int):Int:=if k=5/\1<=s/\s<=7 then 7 else S0 s r k
def Uw(s:Int)(r:Bool)(k:Int):Bool:=if k=5/\1<=s/\s<=7 then true else Sk s r k
def sE(s:Int)(r:Bool)(f:Nat):Int:=Uv s r (qf f)
def uh(s:Int)(r:Bool)(f:Nat):Bool:=Uw s r (qf f)
def key(x:Step):Int×Bool×Int:=(x.1,x.2.1,x.2.2.1)
theorem Gb(s:Int)(r:Bool)(k:Int){l m:List Step}(h:l.Perm m):(l.map key).Nodup->∀i j,(find s r k l i).map (·.2)=(find s r k m j).map (·.2):=by
 induction h with
 | nil=>intro _ i j;rfl
 | cons x _ ih =>
  intro hn i j
  rw[List.map_cons,List.nodup_cons]at hn
  simp only[find]
  split
  ·rfl
  ·exact ih hn.2 _ _
 | swap x y l =>
  intro hn i j
  simp only[List.map_cons,List.nodup_cons,List.mem_cons,not_or]at hn
  simp only[find]
  by_cases hx:s=x.1/\r=x.2.1/\k=x.2.2.1
  ·by_cases hy:s=y.1/\r=y.2.1/\k=y.2.2.1
   ·exact absurd (by unfold key;rw[← hx.1,← hx.2.1,← hx.2.2,← hy.1,← hy.2.1,← hy.2.2]) hn.1.1
   ·rw[if_pos hx,if_neg hy]
    split <;> rfl
  ·rw[if_neg hx];by_cases hy:s=y.1/\r=y.2.1/\k=y.2.2.1
   ·rw[if_pos hy,if_neg hx,if_pos hy];rfl
   ·rw[if_neg hy,if_neg hy,if_neg hx]
    have hs:∀(l:List Step) (i j:Nat),(find s r k l i).map (·.2)=(find s r k l j).map (·.2):=by
     intro l
     induction l with
     | nil=>intro i j;rfl
     | cons z l ih =>
      intro i j
      simp only[find]
      split
      ·rfl
      ·exact ih _ _
    exact hs l _ _
 | trans h1 _ ih1 ih2 =>
  intro hn i j
  exact(ih1 hn i 0).trans (ih2 ((h1.map key).nodup_iff.1 hn) 0 j)
theorem QE:(I2.map key).Nodup:=by decide +kernel
theorem bP{s:Int}{r:Bool}{k:Int}(h:s<1\/6<s):∀(l:List Step) (i:Nat),(∀x∈l,1<=x.1/\x.1<=6)->find s r k l i=none
 | [],_,_=>rfl
 | x::l,i,ha=>by
  have hx:=ha x zs;rw[find,if_neg zo];exact bP h l (i+1) (λy hy=>ha y (by simp[hy]))
def sG(f:Nat):Bool:=qf f==1
def sH(f:Nat):Int:=if sG f=true then 1 else 0
end kD
namespace Go.Proofs.YtbhnbcadgmagpaaGreatDoor
open Go.ChangeShapes Go.WideShapes Go.ChangeAt Go.RowKit Go.aN Go.Lib
namespace Tr
open kD (Step find qf S0 Sk sE uh sH sG Uv Uw)
abbrev kc(s:Int)(r:Bool)(k:Int):Array Value:=#[.int .i64 s,.bool r,.int .i64 k]
def n7:Nat->List Step->List MapEntry
 | _,[]=>[]
 | n,x::l=>{ key:=.agg (kc x.1 x.2.1 x.2.2.1),val:=.int .i64 x.2.2.2,born:=n }::n7 (n+1) l
theorem EI(x:Step):∀(l:List Step) (n:Nat),n7 n (l++[x])=n7 n l++[{ key:=.agg (kc x.1 x.2.1 x.2.2.1),val:=.int .i64 x.2.2.2,born:=n+l.length }]
 | [],n=>rfl
 | y::l,n=>by
  have:=EI x l (n+1);simp only[List.cons_append,n7,this,List.length_cons,Nat.add_assoc,Nat.add_comm 1]
def mp(l:List Step):Obj:=.map (n7 0 l).toArray l.length
theorem nI:Tryz.prog.underlying 344=some (.struct (Tryz.prog.fieldsOf 344)):=zk
theorem J4:Tryz.prog.stoodInHeld 344=false:=zk
theorem J5:(Tryz.prog.fieldsOf 344).toList.map (λf=>(f.type,f.offset))=[(3,0),(4,1),(3,2)]:=zk
theorem Bc:(Tryz.prog.fieldsOf 344).toList.all (λf=>f.name != "_")=true:=zk
theorem lq:Tryz.prog.underlying 341=some (.map 344 3):=zk
theorem S3(s:Int)(r:Bool)(k s2:Int)(r2:Bool)(k2:Int)(w:World):(Op.equalIn 10000 344 (.agg (kc s r k)) (.agg (kc s2 r2 k2))).run Tryz.prog w = .ok (decide (s=s2/\r=r2/\k=k2)) w:=by
 rw[show(10000:Nat)=9999+1 from rfl,run_equalIn_struct w 9999 _ _ _ nI J4];have hl:=J5;have hn:=Bc;generalize (Tryz.prog.fieldsOf 344).toList=l at hl hn ⊢
 rcases l with _ | ⟨f1,_ | ⟨f2,_ | ⟨f3,_ | ⟨f4,l⟩⟩⟩⟩ <;> simp at hl hn
 obtain⟨⟨t1,o1⟩,⟨t2,o2⟩,t3,o3⟩:=hl;obtain⟨n1,n2,n3⟩:=hn
 have c1:∀(s:Int) (r:Bool) (k:Int),(part 3 (kc s r k) 0).run Tryz.prog w = .ok (.int .i64 s) w:=λs r k=>by simp[go_sem]
 have c2:∀(s:Int) (r:Bool) (k:Int),(part 4 (kc s r k) 1).run Tryz.prog w = .ok (.bool r) w:=λs r k=>by simp[go_sem]
 have c3:∀(s:Int) (r:Bool) (k:Int),(part 3 (kc s r k) 2).run Tryz.prog w = .ok (.int .i64 k) w:=λs r k=>by simp[go_sem]
 have q1:(Op.equalIn 9999 3 (.int .i64 s) (.int .i64 s2)).run Tryz.prog w = .ok (s==s2) w:=run_equalIn_int w 9998 _ .i64 .i64 s s2 zk
 have Vc:(Op.equalIn 9999 4 (.bool r) (.bool r2)).run Tryz.prog w = .ok (r==r2) w:=by
  have hu:Tryz.prog.underlying 4=some .bool:=zk;rw[show(9999:Nat)=9998+1 from rfl,Op.equalIn];simp[run_underlying hu,Result.andThen]
 have q3:(Op.equalIn 9999 3 (.int .i64 k) (.int .i64 k2)).run Tryz.prog w = .ok (k==k2) w:=run_equalIn_int w 9998 _ .i64 .i64 k k2 zk;simp only[Op.eqFields,ne_eq,n1,n2,n3,not_false_eq_true,if_true,t1,t2,t3,o1,o2,o3,Sem.run_bind,c1,c2,c3,Result.andThen_ok,q1,Vc,q3,Sem.run_ite,Sem.run_pure];by_cases h1:s=s2
 ·by_cases h2:r=r2
  ·by_cases h3:k=k2
   ·simp[h1,h2,h3]
   ·simp[h1,h2,h3]
  ·simp[h1,h2]
 ·simp[h1]
theorem Bd(em:Bool)(s:Int)(r:Bool)(k:Int)(w:World):(Instr.checkKey em 10000 344 (.agg (kc s r k))).run Tryz.prog w = .ok () w:=by
 rw[show(10000:Nat)=9999+1 from rfl,Instr.checkKey];simp only[Sem.run_bind,run_underlying nI,Result.andThen_ok];rw[← Array.forIn_toList];have hl:=J5;have hn:=Bc;generalize (Tryz.prog.fieldsOf 344).toList=l at hl hn ⊢
 rcases l with _ | ⟨f1,_ | ⟨f2,_ | ⟨f3,_ | ⟨f4,l⟩⟩⟩⟩ <;> simp at hl hn
 obtain⟨⟨t1,o1⟩,⟨t2,o2⟩,t3,o3⟩:=hl;obtain⟨n1,n2,n3⟩:=hn
 have c1:(part 3 (kc s r k) 0).run Tryz.prog w = .ok (.int .i64 s) w:=by simp[go_sem]
 have c2:(part 4 (kc s r k) 1).run Tryz.prog w = .ok (.bool r) w:=by simp[go_sem]
 have c3:(part 3 (kc s r k) 2).run Tryz.prog w = .ok (.int .i64 k) w:=by simp[go_sem]
 have q1:∀x,(Instr.checkKey em 9999 3 (.int .i64 x)).run Tryz.prog w = .ok () w:=λx=>MapKept.run_checkKey (d:=.int .i64) (k:=.int .i64 x) zk rfl em 9998;have q2:∀x,(Instr.checkKey em 9999 4 (.bool x)).run Tryz.prog w = .ok () w:=λx=>MapKept.run_checkKey (d:=.bool) (k:=.bool x) zk trivial em 9998;simp only[List.forIn_cons,List.forIn_nil,ne_eq,n1,n2,n3,not_false_eq_true,if_true,t1,t2,t3,o1,o2,o3,Sem.run_bind,c1,c2,c3,Result.andThen_ok,q1,q2,Sem.run_pure]
theorem aaH(s:Int)(r:Bool)(k:Int)(w:World):∀(l:List Step) (n i:Nat),(Instr.findAsking 344 (.agg (kc s r k)) (n7 n l) i).run Tryz.prog w = .ok ((find s r k l i).map λp=>(p.1,.int .i64 p.2)) w
 | [],n,i=>by simp[n7,find,Instr.findAsking]
 | x::l,n,i=>by
  have h:=S3 s r k x.1 x.2.1 x.2.2.1 w;rw[n7,Instr.findAsking,find];simp only[Sem.run_bind,Op.equal,Op.maxDepth,h,Result.andThen_ok];by_cases hx:s=x.1/\r=x.2.1/\k=x.2.2.1
  ·rw[decide_eq_true hx,if_pos hx];simp
  ·rw[decide_eq_false hx,if_neg hx];simp only[Bool.false_eq_true,if_false];exact aaH s r k w l (n+1) (i+1)
theorem EJ(s:Int)(r:Bool)(k:Int)(l:List Step)(w:World):(Instr.findKey 344 (.agg (kc s r k)) (n7 0 l)).run Tryz.prog w = .ok ((find s r k l 0).map λp=>(p.1,.int .i64 p.2)) w:=by
 have h:=aaH s r k w l 0 0
 cases l with
 | nil=>simp[Instr.findKey,run_underlying nI,Result.andThen,n7,Instr.findNow,find]
 | cons x l =>
  have hn:Instr.findNow (.struct (Tryz.prog.fieldsOf 344)) (.agg (kc s r k)) (n7 0 (x::l)) 0=none:=by simp[n7,Instr.findNow,Instr.sameNow]
  simp only[Instr.findKey,Sem.run_bind,run_underlying nI,Result.andThen_ok,hn,h]
theorem uk{α:Type}(h:Array α)(x y:α):(h.push x).setIfInBounds h.size y=h.push y:=by
 apply Array.toList_inj.1;simp
theorem nJ(w:World)(l:List Step)(s:Int)(r:Bool)(k d:Int)(hf:find s r k l 0=none) :
  (Instr.mapUpdate 341 (.map (some w.heap.size)) (.agg (kc s r k)) (.int .i64 d)).run Tryz.prog (w.alloc (mp l)) = .ok () (w.alloc (mp (l++[(s,r,k,d)]))):=by
 have hb:(w.alloc (mp l)).heap[w.heap.size]? = some (.map (n7 0 l).toArray l.length):=heap_alloc_new _ _
 have hk:=EJ s r k l (w.alloc (mp l))
 rw[hf]at hk
 have qg:(setObj w.heap.size (.map ((n7 0 l).toArray.push { key:=.agg (kc s r k),val:=.int .i64 d,born:=l.length }) (l.length+1))).run Tryz.prog (w.alloc (mp l)) = .ok () (w.alloc (mp (l++[(s,r,k,d)]))):=by
  rw[MapKept.run_setObj_map _ hb];show Result.ok () ({ w.alloc (mp l)with heap:=(w.heap.push (mp l)).setIfInBounds w.heap.size _ }:World)=_;rw[uk]
  have e:mp (l++[(s,r,k,d)]) = .map ((n7 0 l).toArray.push { key:=.agg (kc s r k),val:=.int .i64 d,born:=l.length }) (l.length+1):=by
   unfold mp;rw[EI];simp
  rw[e];rfl
 simp only[Instr.mapUpdate,Sem.run_bind,run_underlying lq,Result.andThen_ok,MapKept.run_getObj_map hb,Bd,hk,Option.map_none,qg]
theorem S4(w:World):(Instr.makeMap 341 none).run Tryz.prog w = .ok (.map (some w.heap.size)) (w.alloc (mp [])):=run_makeMap (P:=Tryz.prog) 341 w
def iV(i:Nat):Step:=kD.I2.getD (i / 2 - 1) (0,false,0,0)
def ew:List Nat:=[2,4,6,8,10,12,14,16,18,20,22,24,26,28,30,32,34,36,38,40,42,44]
theorem C7:ew.Nodup:=by decide +kernel
theorem J6:ew.map iV=kD.I2:=by decide +kernel
theorem J7:∀i∈ew,∀j∈ew,(iV i).1=(iV j).1/\(iV i).2.1=(iV j).2.1/\(iV i).2.2.1=(iV j).2.2.1->i=j:=by decide +kernel
theorem J8{D:List Nat}{i:Nat}(hD:∀x∈D,x∈ew)(hi:i∈ew)(hn:i∉D):∀k,find (iV i).1 (iV i).2.1 (iV i).2.2.1 (D.map iV) k=none:=by
 induction D with
 | nil=>intro k;rfl
 | cons x D ih =>
  intro k
  rw[List.map_cons,find,if_neg (λh=>hn (by rw[J7 i hi x (hD x zs) h];simp))]
  exact ih (λy hy=>hD y (by simp[hy])) (λh=>hn (by simp[h])) (k+1)
theorem NN(w:World){D:List Nat}{i:Nat}(hD:∀x∈D,x∈ew)(hi:i∈ew)(hn:i∉D) :
  (Instr.mapUpdate 341 (.map (some w.heap.size)) (.agg (kc (iV i).1 (iV i).2.1 (iV i).2.2.1)) (.int .i64 (iV i).2.2.2)).run Tryz.prog (w.alloc (mp (D.map iV))) = .ok () (w.alloc (mp ((D++[i]).map iV))):=by
 have h:=nJ w (D.map iV) (iV i).1 (iV i).2.1 (iV i).2.2.1 (iV i).2.2.2 (J8 hD hi hn 0)
 rw[h,List.map_append]
 rfl
theorem Gd(w:World):Calls Tryz.prog 298 #[] w λe w'=>e = .returned (.map (some w.heap.size))/\∃l,l.Perm kD.I2/\w'=w.drew.alloc (mp l):=by
 have hm:=S4 w.drew;go_in;go_wp2_with fail;refine wp_region_any zk ?_;change wpAny _ _ _ _ _ _ _ (World.drew _);refine wpAny_take (i:=1) (v:=.agg #[.int .i64 1,.bool false,.int .i64 1]) rfl zk zk zk zh (Or.inl ⟨by rfl,λw=>by go_simp⟩) ?_;simp only[Act.put,zq];refine wpAny_take (i:=3) (v:=.agg #[.int .i64 1,.bool true,.int .i64 2]) rfl zk zk zk zh (Or.inl ⟨by rfl,λw=>by go_simp⟩) ?_;simp only[Act.put,zq];refine wpAny_take (i:=5) (v:=.agg #[.int .i64 2,.bool false,.int .i64 1]) rfl zk zk zk zh (Or.inl ⟨by rfl,λw=>by go_simp⟩) ?_;simp only[Act.put,zq];refine wpAny_take (i:=7) (v:=.agg #[.int .i64 2,.bool true,.int .i64 2]) rfl zk zk zk zh (Or.inl ⟨by rfl,λw=>by go_simp⟩) ?_;simp only[Act.put,zq];refine wpAny_take (i:=9) (v:=.agg #[.int .i64 2,.bool false,.int .i64 3]) rfl zk zk zk zh (Or.inl ⟨by rfl,λw=>by go_simp⟩) ?_;simp only[Act.put,zq];refine wpAny_take (i:=11) (v:=.agg #[.int .i64 2,.bool false,.int .i64 4]) rfl zk zk zk zh (Or.inl ⟨by rfl,λw=>by go_simp⟩) ?_;simp only[Act.put,zq];refine wpAny_take (i:=13) (v:=.agg #[.int .i64 3,.bool false,.int .i64 3]) rfl zk zk zk zh (Or.inl ⟨by rfl,λw=>by go_simp⟩) ?_;simp only[Act.put,zq];refine wpAny_take (i:=15) (v:=.agg #[.int .i64 3,.bool true,.int .i64 3]) rfl zk zk zk zh (Or.inl ⟨by rfl,λw=>by go_simp⟩) ?_;simp only[Act.put,zq];refine wpAny_take (i:=17) (v:=.agg #[.int .i64 3,.bool false,.int .i64 4]) rfl zk zk zk zh (Or.inl ⟨by rfl,λw=>by go_simp⟩) ?_;simp only[Act.put,zq];refine wpAny_take (i:=19) (v:=.agg #[.int .i64 3,.bool true,.int .i64 4]) rfl zk zk zk zh (Or.inl ⟨by rfl,λw=>by go_simp⟩) ?_;simp only[Act.put,zq];refine wpAny_take (i:=21) (v:=.agg #[.int .i64 4,.bool false,.int .i64 3]) rfl zk zk zk zh (Or.inl ⟨by rfl,λw=>by go_simp⟩) ?_;simp only[Act.put,zq];refine wpAny_take (i:=23) (v:=.agg #[.int .i64 4,.bool true,.int .i64 3]) rfl zk zk zk zh (Or.inl ⟨by rfl,λw=>by go_simp⟩) ?_;simp only[Act.put,zq];refine wpAny_take (i:=25) (v:=.agg #[.int .i64 4,.bool false,.int .i64 4]) rfl zk zk zk zh (Or.inl ⟨by rfl,λw=>by go_simp⟩) ?_;simp only[Act.put,zq];refine wpAny_take (i:=27) (v:=.agg #[.int .i64 4,.bool true,.int .i64 4]) rfl zk zk zk zh (Or.inl ⟨by rfl,λw=>by go_simp⟩) ?_;simp only[Act.put,zq];refine wpAny_take (i:=29) (v:=.agg #[.int .i64 5,.bool false,.int .i64 3]) rfl zk zk zk zh (Or.inl ⟨by rfl,λw=>by go_simp⟩) ?_;simp only[Act.put,zq];refine wpAny_take (i:=31) (v:=.agg #[.int .i64 5,.bool true,.int .i64 3]) rfl zk zk zk zh (Or.inl ⟨by rfl,λw=>by go_simp⟩) ?_;simp only[Act.put,zq];refine wpAny_take (i:=33) (v:=.agg #[.int .i64 5,.bool false,.int .i64 4]) rfl zk zk zk zh (Or.inl ⟨by rfl,λw=>by go_simp⟩) ?_;simp only[Act.put,zq];refine wpAny_take (i:=35) (v:=.agg #[.int .i64 5,.bool true,.int .i64 4]) rfl zk zk zk zh (Or.inl ⟨by rfl,λw=>by go_simp⟩) ?_;simp only[Act.put,zq];refine wpAny_take (i:=37) (v:=.agg #[.int .i64 6,.bool false,.int .i64 3]) rfl zk zk zk zh (Or.inl ⟨by rfl,λw=>by go_simp⟩) ?_;simp only[Act.put,zq];refine wpAny_take (i:=39) (v:=.agg #[.int .i64 6,.bool true,.int .i64 3]) rfl zk zk zk zh (Or.inl ⟨by rfl,λw=>by go_simp⟩) ?_;simp only[Act.put,zq];refine wpAny_take (i:=41) (v:=.agg #[.int .i64 6,.bool false,.int .i64 4]) rfl zk zk zk zh (Or.inl ⟨by rfl,λw=>by go_simp⟩) ?_;simp only[Act.put,zq];refine wpAny_take (i:=43) (v:=.agg #[.int .i64 6,.bool true,.int .i64 4]) rfl zk zk zk zh (Or.inl ⟨by rfl,λw=>by go_simp⟩) ?_;simp only[Act.put,zq];refine wpAny_ready (rs:=[0]) zk zs (AllReady.cons rfl (λK hK=>?_) AllReady.nil);go_simp;refine hK _ _ ?_;clear hK K;refine J2.q9 ew _ _ (λD w'=>w'=w.drew.alloc (mp (D.map iV))) 2 22 C7 rfl zk zk _ rfl ?_ ?_
 ·intro D i w2 hD hi hn hJ;subst hJ;have hl:=NN w.drew hD hi hn;unfold ew at hi;simp only[List.mem_cons,List.not_mem_nil,or_false]at hi
  rcases hi with rfl | rfl | rfl | rfl | rfl | rfl | rfl | rfl | rfl | rfl | rfl | rfl | rfl | rfl | rfl | rfl | rfl | rfl | rfl | rfl | rfl | rfl
  all_goals exact J2.Bb rfl rfl rfl rfl hl ⟨rfl,rfl⟩
 ·intro D w2 hp hJ;subst hJ;refine J2.ol 45 24 (.map (some w.heap.size)) rfl rfl zk zk zk zh (Or.inl ⟨by rfl,λw=>by go_simp⟩) ?_;simp only[List.setIfInBounds_toArray,List.set_cons_zero,List.set_cons_succ];refine J2.ol 46 0 (.map (some w.heap.size)) rfl rfl zk zk zk zh (Or.inl ⟨by rfl,λw=>by go_simp⟩) ?_;simp only[List.setIfInBounds_toArray,List.set_cons_zero,List.set_cons_succ];refine wpAny_done zk ?_ _;have hq:=hp.map iV;rw[J6]at hq;go_wp2_with fail;go_ret;exact⟨rfl,_,hq,rfl⟩
theorem jl(s:Int)(r:Bool)(k:Int)(W:World)(b:Nat)(l:List Step)(hp:l.Perm kD.I2)(hb:W.heap[b]? = some (mp l)) :
  (Instr.lookup 341 (.map (some b)) (.agg #[.int .i64 s,.bool r,.int .i64 k]) true).run Tryz.prog W = .ok (.tuple #[.int .i64 (S0 s r k),.bool (Sk s r k)]) W:=by
 have hb':W.heap[b]? = some (.map (n7 0 l).toArray l.length):=hb
 have hk:=EJ s r k l W
 have hz:(zeroValue 3).run Tryz.prog W = .ok (.int .i64 0) W:=by simp[go_sem]
 have hv:=kD.Gb s r k hp ((hp.map kD.key).nodup_iff.2 kD.QE) 0 0
 simp only[Instr.lookup,Sem.run_bind,run_underlying lq,Result.andThen_ok,MapKept.run_getObj_map hb',Sem.run_pure,Bd,hk]
 have e2:Sk s r k=((find s r k kD.I2 0).map (·.2)).isSome:=by unfold Sk;cases find s r k kD.I2 0 <;> rfl
 rw[e2]
 unfold S0
 rw[← hv]
 cases find s r k l 0 with
 | none=>simp[hz,Result.andThen]
 | some p=>simp[Result.andThen]
theorem ul(x y:Nat)(hx:x<256)(hy:y<256):bits .and .u8 (x:Int) (y:Int)=((x &&& y:Nat):Int):=by
 have h:∀a:Fin 256,∀b:Fin 256,bits .and .u8 (a.val:Int) (b.val:Int)=((a.val &&& b.val:Nat):Int):=by
  intro a b;show IntKind.u8.wrap ((BitVec.ofInt 8 (a.val:Int) &&& BitVec.ofInt 8 (b.val:Int)).toNat:Int)=_;rw[BitVec.ofInt_natCast,BitVec.ofInt_natCast,BitVec.toNat_and,BitVec.toNat_ofNat,BitVec.toNat_ofNat,Nat.mod_eq_of_lt zo,Nat.mod_eq_of_lt zo];have:a.val &&& b.val<=a.val:=Nat.and_le_left;simp[IntKind.wrap,IntKind.bits,IntKind.signed];omega
 exact h ⟨x,hx⟩ ⟨y,hy⟩
theorem um(f:Nat)(hf:f<256)(W:World):Calls Tryz.prog 280 #[.int .u8 (f:Int)] W λe w'=>e = .returned (.int .i64 (qf f:Int))/\w'=W:=by
 have a23:bits .and .u8 (f:Int) 23=((f &&& 23:Nat):Int):=ul f 23 hf zo;unfold qf;generalize f &&& 23=c at a23 ⊢;by_cases h1:c=2
 ·subst h1;go_in;go_wp2_with fail;go_ret;exact⟨rfl,rfl⟩
 by_cases h2:c=18
 ·subst h2;go_in;go_wp2_with fail;go_ret;exact⟨rfl,rfl⟩
 by_cases h3:c=16
 ·subst h3;go_in;go_wp2_with fail;go_ret;exact⟨rfl,rfl⟩
 by_cases h4:c=17
 ·subst h4;go_in;go_wp2_with fail;go_ret;exact⟨rfl,rfl⟩
 by_cases h5:c=4
 ·subst h5;go_in;go_wp2_with fail;go_ret;exact⟨rfl,rfl⟩
 by_cases h6:c=20
 ·subst h6;go_in;go_wp2_with fail;go_ret;exact⟨rfl,rfl⟩
 have d1:((c:Int)==2)=false:=by rw[beq_eq_false_iff_ne];omega
 have d2:((c:Int)==18)=false:=by rw[beq_eq_false_iff_ne];omega
 have d3:((c:Int)==16)=false:=by rw[beq_eq_false_iff_ne];omega
 have d4:((c:Int)==17)=false:=by rw[beq_eq_false_iff_ne];omega
 have d5:((c:Int)==4)=false:=by rw[beq_eq_false_iff_ne];omega
 have d6:((c:Int)==20)=false:=by rw[beq_eq_false_iff_ne];omega
 rw[if_neg h1,if_neg h2,if_neg h3,if_neg h4,if_neg h5,if_neg h6];clear h1 h2 h3 h4 h5 h6;go_in;go_wp2_with fail;go_ret;exact⟨rfl,rfl⟩
theorem uo(f:Nat)(hf:f<256)(W:World):Calls Tryz.prog 252 #[.int .u8 (f:Int)] W λe w'=>e = .returned (.tuple #[.int .i64 (sH f),.bool (sG f)])/\w'=W:=by
 have hk:=um f hf W;unfold sH sG;generalize qf f=k at hk ⊢;by_cases h:k=1
 ·subst h;go_in;go_wp2_with fail;refine hk.mono ?_;rintro e w' ⟨rfl,rfl⟩;go_wp2_with fail;go_ret2;exact⟨rfl,rfl⟩
 ·have d1:((k:Int)==1)=false:=by rw[beq_eq_false_iff_ne];omega
  have d2:(k==1)=false:=by rw[beq_eq_false_iff_ne];exact h
  rw[d2];clear h d2;go_in;go_wp2_with fail;refine hk.mono ?_;rintro e w' ⟨rfl,rfl⟩;go_wp2_with fail;go_ret2;exact⟨rfl,rfl⟩
theorem oJ(W:World)(o:Obj):Below W.heap.size W (W.drew.alloc o):=((Below.refl W.heap.size W).drew).alloc zl o
theorem mz(s:Int)(r:Bool)(f:Nat)(hs : -9223372036854775808<=s/\s<=9223372036854775807)(hf:f<256)(W:World) :
  Calls Tryz.prog 282 #[.int .i64 s,.bool r,.int .u8 (f:Int)] W λe w'=>e = .returned (.tuple #[.int .i64 (sE s r f),.bool (uh s r f)])/\Below W.heap.size W w':=by
 have HK:=hid (um f hf W)
 unfold sE uh Uv Uw
 generalize qf f=k at HK ⊢
 by_cases h:k=5/\1<=s/\s<=7
 ·obtain⟨rfl,h1,h2⟩:=h;rw[if_pos ⟨by omega,h1,h2⟩,if_pos ⟨by omega,h1,h2⟩];go_in;go_wp2_with fail;refine HK.out.mono ?_;rintro e w' ⟨rfl,rfl⟩;go_wp2_with fail;go_ret2;exact⟨rfl,Below.refl _ _⟩
 ·have hk : ¬((k:Int)=5/\1<=s/\s<=7):=zo;rw[if_neg hk,if_neg hk];have HL:=hid λ(l:List Step) (hp:l.Perm kD.I2)=>λ(q:Int)=>jl s r q (W.alloc (mp l)).drew W.heap.size l hp (by have:=heap_alloc_new W (mp l);exact this);have HS:=hid (Gd W);by_cases h5:k=5
  ·subst h5;by_cases h1:1<=s
   ·have h7 : ¬s<=7:=zo;clear h hk;go_in;go_wp2_with fail;refine HK.out.mono ?_;rintro e w' ⟨rfl,rfl⟩;go_wp2_with fail;refine HS.out.mono ?_;rintro e w' ⟨rfl,l,hp,rfl⟩;have hl:=HL.out l hp 5;go_wp2_with fail;go_ret2;exact⟨rfl,oJ _ _⟩
   ·clear h hk;go_in;go_wp2_with fail;refine HK.out.mono ?_;rintro e w' ⟨rfl,rfl⟩;go_wp2_with fail;refine HS.out.mono ?_;rintro e w' ⟨rfl,l,hp,rfl⟩;have hl:=HL.out l hp 5;go_wp2_with fail;go_ret2;exact⟨rfl,oJ _ _⟩
  ·have d5:((k:Int)==5)=false:=by rw[beq_eq_false_iff_ne];omega
   clear h hk h5;go_in;go_wp2_with fail;refine HK.out.mono ?_;rintro e w' ⟨rfl,rfl⟩;go_wp2_with fail;refine HS.out.mono ?_;rintro e w' ⟨rfl,l,hp,rfl⟩;have hl:=HL.out l hp (k:Int);go_wp2_with fail;go_ret2;exact⟨rfl,oJ _ _⟩
end Tr
end Go.Proofs.YtbhnbcadgmagpaaGreatDoor
