/- Several texts of this proof in one file, each in its own namespace. -/
import Derived.Test.YtcockldefmmhbaaGreatDoorRows
import Derived.Test.YtcockldefmmhbaaGreatDoorTraM
import Derived.Test.YtcockldefmmhbaaGreatDoorComO
import Derived.Test.YtcockldefmmhbaaGreatDoorComJ
import Derived.WalkKit
import Derived.ProofKit
import Derived.OpenShut
import Derived.BigQuiet
import Derived.Lib.Hide
import Derived.MapKept
import Derived.Laws.StructEq
import Derived.ChangeKeysEq
import Derived.KernelRfl
import Derived.Test.YtcockldefmmhbaaGreatDoorJ12
set_option linter.unusedVariables false
set_option linter.unusedSimpArgs false
namespace Go.Proofs.YtcockldefmmhbaaGreatDoor
open Go.ChangeShapes Go.WideShapes Go.ChangeAt Go.RowKit Go.Mtl Go.Lib
namespace Tr
open TraM (Step find kindN stN stB nextN nextB openN openB nxN nxB)
abbrev kc (s:Int) (r:Bool) (k:Int):Array Value:=#[.int .i64 s,.bool r,.int .i64 k]
def ent:Nat->List Step->List MapEntry
 | _,[]=>[]
 | n,x :: l=>{ key:=.agg (kc x.1 x.2.1 x.2.2.1),val:=.int .i64 x.2.2.2,born:=n } :: ent (n+1) l
theorem ent_app (x:Step):∀ (l:List Step) (n:Nat),ent n (l ++ [x])=ent n l ++ [{ key:=.agg (kc x.1 x.2.1 x.2.2.1),val:=.int .i64 x.2.2.2,born:=n+l.length }]
 | [],n=>rfl
 | y :: l,n=>by
  have:=ent_app x l (n+1)
  simp only [List.cons_append,ent,this,List.length_cons,Nat.add_assoc,Nat.add_comm 1]
def mp (l:List Step):Obj:=.map (ent 0 l).toArray l.length
theorem st_fields:Tryz.prog.underlying 344=some (.struct (Tryz.prog.fieldsOf 344)):=by kernel_rfl
theorem st_stood:Tryz.prog.stoodInHeld 344=false:=by kernel_rfl
theorem st_lay:(Tryz.prog.fieldsOf 344).toList.map (fun f=>(f.type,f.offset))=[(3,0),(4,1),(3,2)]:=by kernel_rfl
theorem st_names:(Tryz.prog.fieldsOf 344).toList.all (fun f=>f.name != "_")=true:=by kernel_rfl
theorem map_is:Tryz.prog.underlying 341=some (.map 344 3):=by kernel_rfl
theorem st_eq (s:Int) (r:Bool) (k s2:Int) (r2:Bool) (k2:Int) (w:World):(Op.equalIn 10000 344 (.agg (kc s r k)) (.agg (kc s2 r2 k2))).run Tryz.prog w = .ok (decide (s=s2/\r=r2/\k=k2)) w:=by
 rw [show (10000:Nat)=9999+1 from rfl,run_equalIn_struct w 9999 _ _ _ st_fields st_stood]
 have hl:=st_lay
 have hn:=st_names
 generalize (Tryz.prog.fieldsOf 344).toList=l at hl hn ⊢
 rcases l with _ | ⟨f1,_ | ⟨f2,_ | ⟨f3,_ | ⟨f4,l⟩⟩⟩⟩ <;> simp at hl hn
 obtain ⟨⟨t1,o1⟩,⟨t2,o2⟩,t3,o3⟩:=hl
 obtain ⟨n1,n2,n3⟩:=hn
 have c1:∀ (s:Int) (r:Bool) (k:Int),(part 3 (kc s r k) 0).run Tryz.prog w = .ok (.int .i64 s) w:=fun s r k=>by simp [go_sem]
 have c2:∀ (s:Int) (r:Bool) (k:Int),(part 4 (kc s r k) 1).run Tryz.prog w = .ok (.bool r) w:=fun s r k=>by simp [go_sem]
 have c3:∀ (s:Int) (r:Bool) (k:Int),(part 3 (kc s r k) 2).run Tryz.prog w = .ok (.int .i64 k) w:=fun s r k=>by simp [go_sem]
 have q1:(Op.equalIn 9999 3 (.int .i64 s) (.int .i64 s2)).run Tryz.prog w = .ok (s == s2) w:=run_equalIn_int w 9998 _ .i64 .i64 s s2 (by kernel_rfl)
 have q2':(Op.equalIn 9999 4 (.bool r) (.bool r2)).run Tryz.prog w = .ok (r == r2) w:=by
  have hu:Tryz.prog.underlying 4=some .bool:=by kernel_rfl
  rw [show (9999:Nat)=9998+1 from rfl,Op.equalIn]
  simp [run_underlying hu,Result.andThen]
 have q3:(Op.equalIn 9999 3 (.int .i64 k) (.int .i64 k2)).run Tryz.prog w = .ok (k == k2) w:=run_equalIn_int w 9998 _ .i64 .i64 k k2 (by kernel_rfl)
 simp only [Op.eqFields,ne_eq,n1,n2,n3,not_false_eq_true,if_true,t1,t2,t3,o1,o2,o3,Sem.run_bind,c1,c2,c3,Result.andThen_ok,q1,q2',q3,Sem.run_ite,Sem.run_pure]
 by_cases h1:s=s2
 ·by_cases h2:r=r2
  ·by_cases h3:k=k2
   ·simp [h1,h2,h3]
   ·simp [h1,h2,h3]
  ·simp [h1,h2]
 ·simp [h1]
theorem st_check (em:Bool) (s:Int) (r:Bool) (k:Int) (w:World):(Instr.checkKey em 10000 344 (.agg (kc s r k))).run Tryz.prog w = .ok () w:=by
 rw [show (10000:Nat)=9999+1 from rfl,Instr.checkKey]
 simp only [Sem.run_bind,run_underlying st_fields,Result.andThen_ok]
 rw [← Array.forIn_toList]
 have hl:=st_lay
 have hn:=st_names
 generalize (Tryz.prog.fieldsOf 344).toList=l at hl hn ⊢
 rcases l with _ | ⟨f1,_ | ⟨f2,_ | ⟨f3,_ | ⟨f4,l⟩⟩⟩⟩ <;> simp at hl hn
 obtain ⟨⟨t1,o1⟩,⟨t2,o2⟩,t3,o3⟩:=hl
 obtain ⟨n1,n2,n3⟩:=hn
 have c1:(part 3 (kc s r k) 0).run Tryz.prog w = .ok (.int .i64 s) w:=by simp [go_sem]
 have c2:(part 4 (kc s r k) 1).run Tryz.prog w = .ok (.bool r) w:=by simp [go_sem]
 have c3:(part 3 (kc s r k) 2).run Tryz.prog w = .ok (.int .i64 k) w:=by simp [go_sem]
 have q1:∀ x,(Instr.checkKey em 9999 3 (.int .i64 x)).run Tryz.prog w = .ok () w:=fun x=>MapKept.run_checkKey (d:=.int .i64) (k:=.int .i64 x) (by kernel_rfl) rfl em 9998
 have q2:∀ x,(Instr.checkKey em 9999 4 (.bool x)).run Tryz.prog w = .ok () w:=fun x=>MapKept.run_checkKey (d:=.bool) (k:=.bool x) (by kernel_rfl) trivial em 9998
 simp only [List.forIn_cons,List.forIn_nil,ne_eq,n1,n2,n3,not_false_eq_true,if_true,t1,t2,t3,o1,o2,o3,Sem.run_bind,c1,c2,c3,Result.andThen_ok,q1,q2,Sem.run_pure]
theorem st_asking (s:Int) (r:Bool) (k:Int) (w:World):∀ (l:List Step) (n i:Nat),(Instr.findAsking 344 (.agg (kc s r k)) (ent n l) i).run Tryz.prog w = .ok ((find s r k l i).map fun p=>(p.1,.int .i64 p.2)) w
 | [],n,i=>by simp [ent,find,Instr.findAsking]
 | x :: l,n,i=>by
  have h:=st_eq s r k x.1 x.2.1 x.2.2.1 w
  rw [ent,Instr.findAsking,find]
  simp only [Sem.run_bind,Op.equal,Op.maxDepth,h,Result.andThen_ok]
  by_cases hx:s=x.1/\r=x.2.1/\k=x.2.2.1
  ·rw [decide_eq_true hx,if_pos hx]
   simp
  ·rw [decide_eq_false hx,if_neg hx]
   simp only [Bool.false_eq_true,if_false]
   exact st_asking s r k w l (n+1) (i+1)
theorem st_find (s:Int) (r:Bool) (k:Int) (l:List Step) (w:World):(Instr.findKey 344 (.agg (kc s r k)) (ent 0 l)).run Tryz.prog w = .ok ((find s r k l 0).map fun p=>(p.1,.int .i64 p.2)) w:=by
 have h:=st_asking s r k w l 0 0
 cases l with
 | nil=>simp [Instr.findKey,run_underlying st_fields,Result.andThen,ent,Instr.findNow,find]
 | cons x l =>
  have hn:Instr.findNow (.struct (Tryz.prog.fieldsOf 344)) (.agg (kc s r k)) (ent 0 (x :: l)) 0=none:=by simp [ent,Instr.findNow,Instr.sameNow]
  simp only [Instr.findKey,Sem.run_bind,run_underlying st_fields,Result.andThen_ok,hn,h]
theorem push_set {α:Type} (h:Array α) (x y:α):(h.push x).setIfInBounds h.size y=h.push y:=by
 apply Array.toList_inj.1
 simp
theorem run_lay (w:World) (l:List Step) (s:Int) (r:Bool) (k d:Int) (hf:find s r k l 0=none) :
  (Instr.mapUpdate 341 (.map (some w.heap.size)) (.agg (kc s r k)) (.int .i64 d)).run Tryz.prog (w.alloc (mp l)) = .ok () (w.alloc (mp (l ++ [(s,r,k,d)]))):=by
 have hb:(w.alloc (mp l)).heap[w.heap.size]? = some (.map (ent 0 l).toArray l.length):=heap_alloc_new _ _
 have hk:=st_find s r k l (w.alloc (mp l))
 rw [hf] at hk
 have hset:(setObj w.heap.size (.map ((ent 0 l).toArray.push { key:=.agg (kc s r k),val:=.int .i64 d,born:=l.length }) (l.length+1))).run Tryz.prog (w.alloc (mp l)) = .ok () (w.alloc (mp (l ++ [(s,r,k,d)]))):=by
  rw [MapKept.run_setObj_map _ hb]
  show Result.ok () ({ w.alloc (mp l) with heap:=(w.heap.push (mp l)).setIfInBounds w.heap.size _ }:World)=_
  rw [push_set]
  have e:mp (l ++ [(s,r,k,d)]) = .map ((ent 0 l).toArray.push { key:=.agg (kc s r k),val:=.int .i64 d,born:=l.length }) (l.length+1):=by
   unfold mp
   rw [ent_app]
   simp
  rw [e]
  rfl
 simp only [Instr.mapUpdate,Sem.run_bind,run_underlying map_is,Result.andThen_ok,MapKept.run_getObj_map hb,st_check,hk,Option.map_none,hset]
def pool:List Nat:=[2,4,6,8,10,12,14,16,18,20,22,24,26,28,30,32,34,36,38,40,42,44]
theorem look_any (s:Int) (r:Bool) (k:Int) (W:World) (b:Nat) (l:List Step) (hp:l.Perm TraM.p22) (hb:W.heap[b]? = some (mp l)) :
  (Instr.lookup 341 (.map (some b)) (.agg #[.int .i64 s,.bool r,.int .i64 k]) true).run Tryz.prog W = .ok (.tuple #[.int .i64 (stN s r k),.bool (stB s r k)]) W:=by
 have hb':W.heap[b]? = some (.map (ent 0 l).toArray l.length):=hb
 have hk:=st_find s r k l W
 have hz:(zeroValue 3).run Tryz.prog W = .ok (.int .i64 0) W:=by simp [go_sem]
 have hv:=TraM.find_perm s r k hp ((hp.map TraM.key).nodup_iff.2 TraM.p_keys) 0 0
 simp only [Instr.lookup,Sem.run_bind,run_underlying map_is,Result.andThen_ok,MapKept.run_getObj_map hb',Sem.run_pure,st_check,hk]
 have e2:stB s r k=((find s r k TraM.p22 0).map (·.2)).isSome:=by unfold stB;cases find s r k TraM.p22 0 <;> rfl
 rw [e2]
 unfold stN
 rw [← hv]
 cases find s r k l 0 with
 | none=>simp [hz,Result.andThen]
 | some p=>simp [Result.andThen]
end Tr
end Go.Proofs.YtcockldefmmhbaaGreatDoor
set_option linter.unusedVariables false
set_option linter.unusedSimpArgs false
set_option maxRecDepth 100000
namespace Go.Proofs.YtcockldefmmhbaaGreatDoor
open Go.ChangeShapes Go.WideShapes Go.ChangeAt Go.RowKit Go.Mtl Go.Lib
namespace Tr
open TraM (Step find kindN stN stB nextN nextB openN openB nxN nxB)
theorem and_u8 (x y:Nat) (hx:x < 256) (hy:y < 256):bits .and .u8 (x:Int) (y:Int)=((x &&& y:Nat):Int):=by
 have h:∀ a:Fin 256,∀ b:Fin 256,bits .and .u8 (a.val:Int) (b.val:Int)=((a.val &&& b.val:Nat):Int):=by
  intro a b
  show IntKind.u8.wrap ((BitVec.ofInt 8 (a.val:Int) &&& BitVec.ofInt 8 (b.val:Int)).toNat:Int)=_
  rw [BitVec.ofInt_natCast,BitVec.ofInt_natCast,BitVec.toNat_and,BitVec.toNat_ofNat,BitVec.toNat_ofNat,Nat.mod_eq_of_lt (by omega),Nat.mod_eq_of_lt (by omega)]
  have:a.val &&& b.val<=a.val:=Nat.and_le_left
  simp [IntKind.wrap,IntKind.bits,IntKind.signed]
  omega
 exact h ⟨x,hx⟩ ⟨y,hy⟩
end Tr
end Go.Proofs.YtcockldefmmhbaaGreatDoor
set_option linter.unusedVariables false
set_option linter.unusedSimpArgs false
set_option maxRecDepth 100000
namespace Go.Proofs.YtcockldefmmhbaaGreatDoor
open Go.ChangeShapes Go.WideShapes Go.ChangeAt Go.RowKit Go.Mtl Go.Lib
namespace Fs
open TraM (nextN nextB openN openB)
abbrev pkc (a b c d e f h:Int):Array Value:=#[.int .u8 a,.int .u32 b,.int .u32 c,.int .u16 d,.int .u16 e,.int .u8 f,.int .u8 h]
section
variable {w w':World} {g:Nat} {a b c d e f h:Int} {t:TypeId}
theorem pk_cells (H:Blk w g (pkc a b c d e f h) t):w.cell? ⟨g,0,none⟩=some (.int .u8 a)/\w.cell? ⟨g,1,none⟩=some (.int .u32 b)/\w.cell? ⟨g,2,none⟩=some (.int .u32 c)/\w.cell? ⟨g,3,none⟩=some (.int .u16 d) ∧
  w.cell? ⟨g,4,none⟩=some (.int .u16 e)/\w.cell? ⟨g,5,none⟩=some (.int .u8 f)/\w.cell? ⟨g,6,none⟩=some (.int .u8 h):=by
 refine ⟨?_,?_,?_,?_,?_,?_,?_⟩ <;> exact H.cell _ _ rfl
theorem pk_frozen (H:Blk w g (pkc a b c d e f h) t):w.frozen? ⟨g,0,none⟩=false/\w.frozen? ⟨g,1,none⟩=false/\w.frozen? ⟨g,2,none⟩=false/\w.frozen? ⟨g,3,none⟩=false ∧
  w.frozen? ⟨g,4,none⟩=false/\w.frozen? ⟨g,5,none⟩=false/\w.frozen? ⟨g,6,none⟩=false:=by
 refine ⟨?_,?_,?_,?_,?_,?_,?_⟩ <;> exact H.frozen _
end
def opN (p f k:Int):Int:=if p=6 then openN f.toNat else if p=17\/p=1/\k=8 then 8 else 0
def opB (p f k:Int):Bool:=if p=6 then openB f.toNat else decide (p=17\/p=1/\k=8)
def kd (r:Bool):Int:=match r with | true=>0 | false=>8
def Fits (p k:Int) (r:Bool):Prop:=p=17\/p=1/\k=kd r
instance (p k:Int) (r:Bool):Decidable (Fits p k r):=by unfold Fits;exact inferInstance
def talkN (s:Int) (r:Bool):Int:=if s=8\/s=9 then (if r then 9 else s) else 0
def talkB (s:Int):Bool:=decide (s=8\/s=9)
def neN (s:Int) (r:Bool) (p f k:Int):Int:=if p=6 then nextN s r f.toNat else if Fits p k r then talkN s r else 0
def neB (s:Int) (r:Bool) (p f k:Int):Bool:=if p=6 then nextB s r f.toNat else if Fits p k r then talkB s else false
end Fs
end Go.Proofs.YtcockldefmmhbaaGreatDoor
