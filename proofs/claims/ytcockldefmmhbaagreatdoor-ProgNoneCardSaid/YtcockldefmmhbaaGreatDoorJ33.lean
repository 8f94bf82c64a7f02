/- Several texts of this proof in one file, each in its own namespace. -/
import Derived.Test.YtcockldefmmhbaaGreatDoorJ26
import Derived.Test.YtcockldefmmhbaaGreatDoorJ31
import Derived.Test.YtcockldefmmhbaaGreatDoorJ12
import Derived.WideKeyRuns
import Derived.ChangeMaps5
import Derived.MapKept
set_option linter.unusedVariables false
set_option linter.unusedSimpArgs false
set_option maxRecDepth 100000
namespace Go.Proofs.YtcockldefmmhbaaGreatDoor
open Go.ChangeShapes Go.WideShapes Go.ChangeAt Go.RowKit Go.Mtl Go.Lib
namespace Au
open AutM
open Go.ChangeMaps (setBlock)
abbrev kyV (k:Ke):Value:=.agg #[.int .u32 (k.a:Int),.int .u32 (k.b:Int),.int .u16 (k.p:Int),.int .u16 (k.q:Int),.int .u8 (k.r:Int)]
abbrev enW (x:Int) (d:Bool):Value:=.agg #[.int .u64 x,.bool d]
abbrev enV (f:Fl):Value:=enW (FloM.gI f.c f.n f.s) f.dn
def kv (f:Fl):Value × Value:=(kyV f.k,enV f)
def ent (e:MapEntry):Value × Value:=(e.key,e.val)
theorem ky_wide:(match Tryz.prog.underlying 87 with | some (.array _ _) | some (.struct _)=>true | _=>false)=true:=by kernel_rfl
theorem part_u32 (n:Nat) (em:Bool) (x:Int) (w:World):(Instr.checkKey em (n+1) 73 (.int .u32 x)).run Tryz.prog w = .ok () w:=by
 rw [Instr.checkKey];simp only [Sem.run_bind,run_underlying Tryz.underlying73,Result.andThen_ok];rfl
theorem part_u16 (n:Nat) (em:Bool) (x:Int) (w:World):(Instr.checkKey em (n+1) 76 (.int .u16 x)).run Tryz.prog w = .ok () w:=by
 rw [Instr.checkKey];simp only [Sem.run_bind,run_underlying Tryz.underlying76,Result.andThen_ok];rfl
theorem part_u8 (n:Nat) (em:Bool) (x:Int) (w:World):(Instr.checkKey em (n+1) 5 (.int .u8 x)).run Tryz.prog w = .ok () w:=by
 rw [Instr.checkKey];simp only [Sem.run_bind,run_underlying Tryz.underlying5,Result.andThen_ok];rfl
theorem pair_u32 (n:Nat) (em:Bool) (x y:Int) (w:World):(Instr.checkKey em (n+2) 84 (.agg #[.int .u32 x,.int .u32 y])).run Tryz.prog w = .ok () w:=by
 obtain ⟨i4,h4⟩:=Option.isSome_iff_exists.1 Ky.u32_info
 have hp:∀ j,j=0\/j=1->∃ a,(part 73 #[.int .u32 x,.int .u32 y] (j * 1)).run Tryz.prog w = .ok a w/\(Instr.checkKey em (n+1) 73 a).run Tryz.prog w = .ok () w:=by
  rintro j (rfl | rfl)
  ·exact ⟨.int .u32 x,by simp [go_sem],part_u32 n em x w⟩
  ·exact ⟨.int .u32 y,by simp [go_sem],part_u32 n em y w⟩
 obtain ⟨a0,p0,q0⟩:=hp 0 (.inl rfl)
 obtain ⟨a1,p1,q1⟩:=hp 1 (.inr rfl)
 rw [Instr.checkKey]
 simp only [Sem.run_bind,run_underlying Ky.ar4_is,Result.andThen_ok,Std.Legacy.Range.forIn_eq_forIn_range',Std.Legacy.Range.size,Nat.sub_zero,Nat.add_one_sub_one,Nat.div_one]
 simp only [List.range',List.forIn_cons,List.forIn_nil,Sem.run_bind,run_sizeOf w h4,Ky.u32_cells,Result.andThen_ok,p0,q0,p1,q1,Sem.run_pure]
theorem pair_u16 (n:Nat) (em:Bool) (x y:Int) (w:World):(Instr.checkKey em (n+2) 85 (.agg #[.int .u16 x,.int .u16 y])).run Tryz.prog w = .ok () w:=by
 obtain ⟨i4,h4⟩:=Option.isSome_iff_exists.1 Ky.u16_info
 have hp:∀ j,j=0\/j=1->∃ a,(part 76 #[.int .u16 x,.int .u16 y] (j * 1)).run Tryz.prog w = .ok a w/\(Instr.checkKey em (n+1) 76 a).run Tryz.prog w = .ok () w:=by
  rintro j (rfl | rfl)
  ·exact ⟨.int .u16 x,by simp [go_sem],part_u16 n em x w⟩
  ·exact ⟨.int .u16 y,by simp [go_sem],part_u16 n em y w⟩
 obtain ⟨a0,p0,q0⟩:=hp 0 (.inl rfl)
 obtain ⟨a1,p1,q1⟩:=hp 1 (.inr rfl)
 rw [Instr.checkKey]
 simp only [Sem.run_bind,run_underlying Ky.ar2_is,Result.andThen_ok,Std.Legacy.Range.forIn_eq_forIn_range',Std.Legacy.Range.size,Nat.sub_zero,Nat.add_one_sub_one,Nat.div_one]
 simp only [List.range',List.forIn_cons,List.forIn_nil,Sem.run_bind,run_sizeOf w h4,Ky.u16_cells,Result.andThen_ok,p0,q0,p1,q1,Sem.run_pure]
theorem key_check (em:Bool) (k:Ke) (w:World):(Instr.checkKey em 10000 87 (kyV k)).run Tryz.prog w = .ok () w:=by
 rw [show (10000:Nat)=9997+2+1 from rfl,Instr.checkKey]
 simp only [Sem.run_bind,run_underlying Ky.ky_fields,Result.andThen_ok]
 rw [← Array.forIn_toList]
 have hl:=Ky.ky_lay
 have hn:=Ky.ky_names
 generalize (Tryz.prog.fieldsOf 87).toList=l at hl hn ⊢
 rcases l with _ | ⟨f1,_ | ⟨f2,_ | ⟨f3,_ | ⟨f4,l⟩⟩⟩⟩ <;> simp at hl hn
 obtain ⟨⟨t1,o1⟩,⟨t2,o2⟩,t3,o3⟩:=hl
 obtain ⟨n1,n2,n3⟩:=hn
 obtain ⟨a,b,p,q,r⟩:=k
 have c1:(part 84 (Ky.kyc a b p q r) 0).run Tryz.prog w = .ok (.agg #[.int .u32 a,.int .u32 b]) w:=by simp [go_sem]
 have c2:(part 85 (Ky.kyc a b p q r) 2).run Tryz.prog w = .ok (.agg #[.int .u16 p,.int .u16 q]) w:=by simp [go_sem]
 have c3:(part 5 (Ky.kyc a b p q r) 4).run Tryz.prog w = .ok (.int .u8 r) w:=by simp [go_sem]
 simp only [List.forIn_cons,List.forIn_nil,Sem.run_bind,n1,n2,n3,ne_eq,not_false_eq_true,if_true,t1,t2,t3,o1,o2,o3,c1,c2,c3,Result.andThen_ok,Sem.run_pure,pair_u32,pair_u16,part_u8]
theorem key_eq (x y:Ke) (w:World):(Op.equal 87 (kyV x) (kyV y)).run Tryz.prog w = .ok (decide (x=y)) w:=by
 show (Op.equalIn 10000 87 _ _).run Tryz.prog w=_
 rw [Ky.ky_eq]
 congr 1
 refine decide_eq_decide.2 ⟨fun h=>Ke.ext' (by omega),fun h=>by subst h;simp⟩
theorem find_asking (k:Ke) (w:World):∀ (es:List MapEntry) (gs:List Fl) (i:Nat),es.map ent=gs.map kv →
  (Instr.findAsking 87 (kyV k) es i).run Tryz.prog w = .ok ((idx k gs).bind fun j=>(gs[j]?).map fun f=>(i+j,enV f)) w:=by
 intro es
 induction es with
 | nil=>intro gs i h;cases gs with
  | nil=>rfl
  | cons g gs=>simp at h
 | cons e es ih =>
  intro gs i h
  cases gs with
  | nil=>simp at h
  | cons g gs =>
   simp only [List.map_cons,List.cons.injEq] at h
   obtain ⟨h1,h2⟩:=h
   unfold ent kv at h1
   injection h1 with hk hv
   rw [Instr.findAsking,hk]
   simp only [Sem.run_bind,key_eq,Result.andThen_ok]
   by_cases hg:g.k=k
   ·rw [decide_eq_true hg.symm,hv]
    simp [idx,List.findIdx?_cons,hg]
   ·rw [decide_eq_false (fun e=>hg e.symm)]
    simp only [Bool.false_eq_true,if_false]
    rw [ih gs (i+1) h2]
    unfold idx
    rw [List.findIdx?_cons]
    simp only [hg,decide_false,Bool.false_eq_true,if_false]
    cases gs.findIdx? (fun f=>decide (f.k=k)) with
    | none=>rfl
    | some j=>simp [Nat.add_assoc,Nat.add_comm 1 j]
theorem find_key (k:Ke) (w:World) (es:List MapEntry) (gs:List Fl) (h:es.map ent=gs.map kv) :
  (Instr.findKey 87 (kyV k) es).run Tryz.prog w = .ok ((idx k gs).bind fun j=>(gs[j]?).map fun f=>(j,enV f)) w:=by
 rw [run_findKey_eq w ky_wide,find_asking k w es gs 0 h]
 simp only [Nat.zero_add]
theorem same_bits (k:Ke):Instr.sameBits 10000 (kyV k) (kyV k)=true:=by simp [Instr.sameBits]
theorem key_stays (k:Ke) (w:World):(Instr.keyThatStays (kyV k) (kyV k)).run Tryz.prog w = .ok (kyV k) w:=by
 rw [Instr.keyThatStays,same_bits];rfl
def MapAt (w:World) (M:Nat) (fs:List Fl):Prop :=
 ∃ (es:Array MapEntry) (clock:Nat) (gs:List Fl),w.heap[M]? = some (.map es clock)/\es.toList.map ent=gs.map kv/\gs.Perm fs/\(es.toList.map (·.born)).Nodup/\∀ x ∈ es.toList,x.born < clock
theorem MapAt.lt {w:World} {M:Nat} {fs:List Fl} (H:MapAt w M fs):M < w.heap.size:=by
 obtain ⟨es,clock,gs,h,_⟩:=H
 exact (Array.getElem?_eq_some_iff.1 h).1
theorem MapAt.keep {w w':World} {M:Nat} {fs:List Fl} (H:MapAt w M fs) (h:w'.heap[M]? = w.heap[M]?):MapAt w' M fs:=by
 obtain ⟨es,clock,gs,h0,hr⟩:=H
 exact ⟨es,clock,gs,h.trans h0,hr⟩
theorem MapAt.perm {w:World} {M:Nat} {fs fs':List Fl} (H:MapAt w M fs) (h:fs.Perm fs'):MapAt w M fs':=by
 obtain ⟨es,clock,gs,h0,h1,h2,hr⟩:=H
 exact ⟨es,clock,gs,h0,h1,h2.trans h,hr⟩
theorem MapAt.new (w:World):MapAt (w.alloc (.map #[] 0)) w.heap.size [] :=
 ⟨#[],0,[],MapKept.heap_alloc w _ |>.1,rfl,List.Perm.refl _,by simp,by simp⟩
theorem idx_of {k:Ke} {gs fs:List Fl} (hf:Oks fs) (hp:gs.Perm fs):(find k fs=none/\idx k gs=none)\/∃ f j,find k fs=some f/\idx k gs=some j/\gs[j]? = some f:=by
 cases hq:find k fs with
 | none=>exact .inl ⟨rfl,idx_none (by unfold find;rw [List.find?_eq_none];intro g hg;simpa using find_none hq g (hp.mem_iff.1 hg))⟩
 | some f =>
  obtain ⟨hm,hk⟩:=find_some hq
  refine .inr ⟨f,?_⟩
  cases hi:idx k gs with
  | none =>
   unfold idx at hi
   rw [List.findIdx?_eq_none_iff] at hi
   exact absurd (hi f (hp.mem_iff.2 hm)) (by simpa using hk)
  | some j =>
   unfold idx at hi
   obtain ⟨hj,h2,_⟩:=List.findIdx?_eq_some_iff_getElem.1 hi
   have e:gs[j]=f:=hf.uniq (hp.mem_iff.1 (List.getElem_mem hj)) hm (by rw [hk];simpa using h2)
   exact ⟨j,rfl,rfl,by rw [List.getElem?_eq_getElem hj,e]⟩
theorem nodup_of {gs fs:List Fl} (hf:Oks fs) (hp:gs.Perm fs):(gs.map (·.k)).Nodup:=(hp.map _).nodup_iff.2 hf.nodup
theorem other_of {k:Ke} {gs:List Fl} (hn:(gs.map (·.k)).Nodup) {j:Nat} (hi:idx k gs=some j) {i:Nat} {g:Fl} (hg:gs[i]? = some g):g.k=k ↔ i=j:=by
 unfold idx at hi
 obtain ⟨hj,h2,_⟩:=List.findIdx?_eq_some_iff_getElem.1 hi
 have h2:gs[j].k=k:=by simpa using h2
 obtain ⟨hlt,rfl⟩:=List.getElem?_eq_some_iff.1 hg
 constructor
 ·intro e
  exact (List.getElem_inj (h₀:=by simpa using hlt) (h₁:=by simpa using hj) hn).1 (by simp [e,h2])
 ·rintro rfl;exact h2
theorem set_is {k:Ke} {g:Fl} (hg:g.k=k):∀ {gs:List Fl} {j:Nat},(gs.map (·.k)).Nodup->idx k gs=some j->gs.set j g=put g gs:=by
 intro gs j hn hi
 apply List.ext_getElem?
 intro i
 rw [List.getElem?_set]
 unfold AutM.put
 rw [List.getElem?_map]
 cases hq:gs[i]? with
 | none=>
  have hge:=List.getElem?_eq_none_iff.1 hq
  split
  ·rename_i e;subst e;rw [if_neg (by omega)];rfl
  ·rfl
 | some x =>
  have ho:=other_of hn hi hq
  have hlt:=(List.getElem?_eq_some_iff.1 hq).1
  by_cases e:j=i
  ·subst e
   rw [if_pos rfl,if_pos hlt,Option.map_some,if_pos (by rw [hg];exact ho.2 rfl)]
  ·rw [if_neg e,Option.map_some,if_neg (by rw [hg];exact fun h=>e (ho.1 h).symm)]
theorem only_block {w:World} {M:Nat} {es:Array MapEntry} {clock:Nat} (h:w.heap[M]? = some (.map es clock)) (o:Obj):Only (· = M) w (setBlock w M o) :=
 ⟨rfl,rfl,rfl,by simp [setBlock],fun k _ hk=>ChangeMaps.heap_setBlock_other h o hk⟩
end Au
end Go.Proofs.YtcockldefmmhbaaGreatDoor
set_option linter.unusedVariables false
set_option linter.unusedSimpArgs false
set_option maxRecDepth 100000
namespace Go.Proofs.YtcockldefmmhbaaGreatDoor
open Go.ChangeShapes Go.WideShapes Go.ChangeAt Go.RowKit Go.Mtl Go.Lib
namespace Tb
open TabM
open Go.ChangeMaps (setBlock)
abbrev enW (x:Int) (d:Bool):Value:=.agg #[.int .i64 x,.bool d]
abbrev enV (f:Fl):Value:=enW f.x f.dn
def kv (f:Fl):Value × Value:=(Au.kyV f.k,enV f)
def ent (e:MapEntry):Value × Value:=(e.key,e.val)
theorem map_is:Tryz.prog.underlying 133=some (.map 87 187):=by kernel_rfl
theorem find_asking (k:AutM.Ke) (w:World):∀ (es:List MapEntry) (gs:List Fl) (i:Nat),es.map ent=gs.map kv →
  (Instr.findAsking 87 (Au.kyV k) es i).run Tryz.prog w = .ok ((idx k gs).bind fun j=>(gs[j]?).map fun f=>(i+j,enV f)) w:=by
 intro es
 induction es with
 | nil=>intro gs i h;cases gs with
  | nil=>rfl
  | cons g gs=>simp at h
 | cons e es ih =>
  intro gs i h
  cases gs with
  | nil=>simp at h
  | cons g gs =>
   simp only [List.map_cons,List.cons.injEq] at h
   obtain ⟨h1,h2⟩:=h
   unfold ent kv at h1
   injection h1 with hk hv
   rw [Instr.findAsking,hk]
   simp only [Sem.run_bind,Au.key_eq,Result.andThen_ok]
   by_cases hg:g.k=k
   ·rw [decide_eq_true hg.symm,hv]
    simp [idx,List.findIdx?_cons,hg]
   ·rw [decide_eq_false (fun e=>hg e.symm)]
    simp only [Bool.false_eq_true,if_false]
    rw [ih gs (i+1) h2]
    unfold idx
    rw [List.findIdx?_cons]
    simp only [hg,decide_false,Bool.false_eq_true,if_false]
    cases gs.findIdx? (fun f=>decide (f.k=k)) with
    | none=>rfl
    | some j=>simp [Nat.add_assoc,Nat.add_comm 1 j]
theorem find_key (k:AutM.Ke) (w:World) (es:List MapEntry) (gs:List Fl) (h:es.map ent=gs.map kv) :
  (Instr.findKey 87 (Au.kyV k) es).run Tryz.prog w = .ok ((idx k gs).bind fun j=>(gs[j]?).map fun f=>(j,enV f)) w:=by
 rw [run_findKey_eq w Au.ky_wide,find_asking k w es gs 0 h]
 simp only [Nat.zero_add]
def MapAt (w:World) (M:Nat) (fs:List Fl):Prop :=
 ∃ (es:Array MapEntry) (clock:Nat) (gs:List Fl),w.heap[M]? = some (.map es clock)/\es.toList.map ent=gs.map kv/\gs.Perm fs/\(es.toList.map (·.born)).Nodup/\∀ x ∈ es.toList,x.born < clock
theorem MapAt.lt {w:World} {M:Nat} {fs:List Fl} (H:MapAt w M fs):M < w.heap.size:=by
 obtain ⟨es,clock,gs,h,_⟩:=H
 exact (Array.getElem?_eq_some_iff.1 h).1
theorem MapAt.keep {w w':World} {M:Nat} {fs:List Fl} (H:MapAt w M fs) (h:w'.heap[M]? = w.heap[M]?):MapAt w' M fs:=by
 obtain ⟨es,clock,gs,h0,hr⟩:=H
 exact ⟨es,clock,gs,h.trans h0,hr⟩
theorem MapAt.perm {w:World} {M:Nat} {fs fs':List Fl} (H:MapAt w M fs) (h:fs.Perm fs'):MapAt w M fs':=by
 obtain ⟨es,clock,gs,h0,h1,h2,hr⟩:=H
 exact ⟨es,clock,gs,h0,h1,h2.trans h,hr⟩
theorem MapAt.new (w:World):MapAt (w.alloc (.map #[] 0)) w.heap.size [] :=
 ⟨#[],0,[],MapKept.heap_alloc w _ |>.1,rfl,List.Perm.refl _,by simp,by simp⟩
theorem idx_of {k:AutM.Ke} {gs fs:List Fl} (hf:Oks fs) (hp:gs.Perm fs):(find k fs=none/\idx k gs=none)\/∃ f j,find k fs=some f/\idx k gs=some j/\gs[j]? = some f:=by
 cases hq:find k fs with
 | none=>exact .inl ⟨rfl,idx_none (by unfold find;rw [List.find?_eq_none];intro g hg;simpa using find_none hq g (hp.mem_iff.1 hg))⟩
 | some f =>
  obtain ⟨hm,hk⟩:=find_some hq
  refine .inr ⟨f,?_⟩
  cases hi:idx k gs with
  | none =>
   unfold idx at hi
   rw [List.findIdx?_eq_none_iff] at hi
   exact absurd (hi f (hp.mem_iff.2 hm)) (by simpa using hk)
  | some j =>
   unfold idx at hi
   obtain ⟨hj,h2,_⟩:=List.findIdx?_eq_some_iff_getElem.1 hi
   have e:gs[j]=f:=hf.uniq (hp.mem_iff.1 (List.getElem_mem hj)) hm (by rw [hk];simpa using h2)
   exact ⟨j,rfl,rfl,by rw [List.getElem?_eq_getElem hj,e]⟩
theorem nodup_of {gs fs:List Fl} (hf:Oks fs) (hp:gs.Perm fs):(gs.map (·.k)).Nodup:=(hp.map _).nodup_iff.2 hf.nodup
theorem other_of {k:AutM.Ke} {gs:List Fl} (hn:(gs.map (·.k)).Nodup) {j:Nat} (hi:idx k gs=some j) {i:Nat} {g:Fl} (hg:gs[i]? = some g):g.k=k ↔ i=j:=by
 unfold idx at hi
 obtain ⟨hj,h2,_⟩:=List.findIdx?_eq_some_iff_getElem.1 hi
 have h2:gs[j].k=k:=by simpa using h2
 obtain ⟨hlt,rfl⟩:=List.getElem?_eq_some_iff.1 hg
 constructor
 ·intro e
  exact (List.getElem_inj (h₀:=by simpa using hlt) (h₁:=by simpa using hj) hn).1 (by simp [e,h2])
 ·rintro rfl;exact h2
theorem set_is {k:AutM.Ke} {g:Fl} (hg:g.k=k):∀ {gs:List Fl} {j:Nat},(gs.map (·.k)).Nodup->idx k gs=some j->gs.set j g=put g gs:=by
 intro gs j hn hi
 apply List.ext_getElem?
 intro i
 rw [List.getElem?_set]
 unfold TabM.put
 rw [List.getElem?_map]
 cases hq:gs[i]? with
 | none=>
  have hge:=List.getElem?_eq_none_iff.1 hq
  split
  ·rename_i e;subst e;rw [if_neg (by omega)];rfl
  ·rfl
 | some x =>
  have ho:=other_of hn hi hq
  have hlt:=(List.getElem?_eq_some_iff.1 hq).1
  by_cases e:j=i
  ·subst e
   rw [if_pos rfl,if_pos hlt,Option.map_some,if_pos (by rw [hg];exact ho.2 rfl)]
  ·rw [if_neg e,Option.map_some,if_neg (by rw [hg];exact fun h=>e (ho.1 h).symm)]
theorem only_block {w:World} {M:Nat} {es:Array MapEntry} {clock:Nat} (h:w.heap[M]? = some (.map es clock)) (o:Obj):Only (· = M) w (setBlock w M o) :=
 ⟨rfl,rfl,rfl,by simp [setBlock],fun k _ hk=>ChangeMaps.heap_setBlock_other h o hk⟩
theorem run_put {w:World} {M:Nat} {fs:List Fl} (H:MapAt w M fs) (hf:Oks fs) {f g:Fl} (hn:find g.k fs=some f) :
  ∃ w',(Instr.mapUpdate 133 (.map (some M)) (Au.kyV g.k) (enV g)).run Tryz.prog w = .ok () w'/\MapAt w' M (put g fs)/\Only (· = M) w w':=by
 obtain ⟨es,clock,gs,h0,h1,h2,h3,h4⟩:=H
 rcases idx_of (k:=g.k) hf h2 with ⟨e,_⟩ | ⟨f',j,e,hi,hj⟩
 ·rw [hn] at e;cases e
 ·rw [hn] at e;obtain rfl:=Option.some.inj e
  have hlt:j < es.size:=by
   have:=congrArg List.length h1;simp at this
   have:=(List.getElem?_eq_some_iff.1 hj).1;omega
  have hkey:(es[j]?).map (·.key)=some (Au.kyV g.k):=by
   have h5:=congrArg (·[j]?) h1
   simp only [List.getElem?_map,hj,Option.map_some,Array.getElem?_toList] at h5
   rw [Array.getElem?_eq_getElem hlt] at h5 ⊢
   simp only [Option.map_some,Option.some.injEq] at h5 ⊢
   unfold ent kv at h5
   injection h5 with h6 h7
   rw [h6,(other_of (nodup_of hf h2) hi hj).2 rfl]
  refine ⟨setBlock w M (.map (es.modify j fun e=>{ e with key:=Au.kyV g.k,val:=enV g }) clock),?_,?_,only_block h0 _⟩
  ·simp only [Instr.mapUpdate,Sem.run_bind,run_underlying map_is,Result.andThen_ok,MapKept.run_getObj_map h0,Au.key_check,find_key g.k w es.toList gs h1,hi,hj,Option.bind_some,Option.map_some,hkey,Option.getD_some,Au.key_stays,MapKept.run_setObj_map _ h0]
   rfl
  ·have e1:(es.modify j fun e=>{ e with key:=Au.kyV g.k,val:=enV g }).toList=es.toList.modify j fun e=>{ e with key:=Au.kyV g.k,val:=enV g }:=by simp
   refine ⟨_,clock,gs.set j g,ChangeMaps.heap_setBlock_same h0 _,?_,?_,?_,?_⟩
   ·rw [e1,List.map_set,← h1]
    apply List.ext_getElem?
    intro i
    simp only [List.getElem?_map,List.getElem?_modify,List.getElem?_set,List.length_map,Array.length_toList,Array.getElem?_toList]
    by_cases e:j=i
    ·subst e;rw [if_pos rfl,if_pos hlt,Array.getElem?_eq_getElem hlt];simp [ent,kv]
    ·rw [if_neg e];simp [e]
   ·rw [set_is rfl (nodup_of hf h2) hi];unfold TabM.put;exact h2.map _
   ·rw [e1]
    have:(es.toList.modify j fun e=>{ e with key:=Au.kyV g.k,val:=enV g }).map (·.born)=es.toList.map (·.born):=by
     apply List.ext_getElem?
     intro i
     simp only [List.getElem?_map,List.getElem?_modify]
     by_cases e:j=i
     ·simp [e];cases es[i]? <;> rfl
     ·simp [e]
    rw [this];exact h3
   ·intro x hx
    rw [e1] at hx
    obtain ⟨i,hx⟩:=List.mem_iff_getElem?.1 hx
    rw [List.getElem?_modify] at hx
    cases hq:es.toList[i]? with
    | none=>simp [hq] at hx
    | some y =>
     have hy:=h4 y (List.mem_of_getElem? hq)
     rw [hq] at hx
     simp only [Option.map_eq_map,Option.map_some,Option.some.injEq] at hx
     subst hx
     split <;> exact hy
theorem run_ins {w:World} {M:Nat} {fs:List Fl} (H:MapAt w M fs) (hf:Oks fs) {g:Fl} (hn:find g.k fs=none) :
  ∃ w',(Instr.mapUpdate 133 (.map (some M)) (Au.kyV g.k) (enV g)).run Tryz.prog w = .ok () w'/\MapAt w' M (ins g fs)/\Only (· = M) w w':=by
 obtain ⟨es,clock,gs,h0,h1,h2,h3,h4⟩:=H
 obtain ⟨_,hi⟩:=(idx_of hf h2).resolve_right (fun h=>by obtain ⟨f,j,e,_⟩:=h;rw [hn] at e;cases e)
 refine ⟨setBlock w M (.map (es.push { key:=Au.kyV g.k,val:=enV g,born:=clock }) (clock+1)),?_,?_,only_block h0 _⟩
 ·simp only [Instr.mapUpdate,Sem.run_bind,run_underlying map_is,Result.andThen_ok,MapKept.run_getObj_map h0,Au.key_check,find_key g.k w es.toList gs h1,hi,Option.bind_none,MapKept.run_setObj_map _ h0]
  rfl
 ·refine ⟨_,clock+1,gs ++ [g],ChangeMaps.heap_setBlock_same h0 _,?_,?_,?_,?_⟩
  ·simp [h1,ent,kv]
  ·exact (List.perm_append_comm (l₁:=gs) (l₂:=[g])).trans ((h2.cons g).trans (ins_perm g fs).symm)
  ·simp only [Array.toList_push,List.map_append,List.map_cons,List.map_nil]
   rw [List.nodup_append]
   refine ⟨h3,by simp,fun a ha b hb e=>?_⟩
   obtain ⟨x,hx,rfl⟩:=List.mem_map.1 ha
   have:=h4 x hx
   simp at hb;omega
  ·intro x hx
   simp only [Array.toList_push,List.mem_append,List.mem_singleton] at hx
   rcases hx with hx | rfl
   ·have:=h4 x hx;omega
   ·simp
end Tb
end Go.Proofs.YtcockldefmmhbaaGreatDoor
