/- Several texts of this proof in one file, each in its own namespace. -/
import Derived.Test.YtcockldefmmhbaaGreatDoorJ33
import Derived.Test.YtcockldefmmhbaaGreatDoorJ32
import Derived.Test.YtcockldefmmhbaaGreatDoorJ44
import Derived.Test.YtcockldefmmhbaaGreatDoorMemE
import Derived.Test.YtcockldefmmhbaaGreatDoorSq
import Derived.Test.YtcockldefmmhbaaGreatDoorJ20
import Derived.Test.YtcockldefmmhbaaGreatDoorFsmB
import Derived.Test.YtcockldefmmhbaaGreatDoorJ23
import Derived.Test.YtcockldefmmhbaaGreatDoorFloB
import Derived.Test.YtcockldefmmhbaaGreatDoorJ31
import Derived.Test.YtcockldefmmhbaaGreatDoorJ10
import Derived.Test.YtcockldefmmhbaaGreatDoorJ30
import Derived.Test.YtcockldefmmhbaaGreatDoorJ13
set_option linter.unusedVariables false
set_option linter.unusedSimpArgs false
set_option maxRecDepth 100000
namespace Go.Proofs.YtcockldefmmhbaaGreatDoor
open Go.ChangeShapes Go.WideShapes Go.ChangeAt Go.RowKit Go.Mtl Go.Lib
namespace Tb
open TabM
open KeyM (isPow hashN strN)
open MemM (Ms holdV touchS)
open Me (ptr)
def sOf (n:Nat) (k:AutM.Ke):Nat:=hashN k.a k.b k.p k.q k.r % n
def partG (c:AutM.Ke->Nat) (i:Nat) (fs:List Fl):List Fl:=fs.filter fun f=>decide (c f.k=i)
abbrev part (n i:Nat) (fs:List Fl):List Fl:=partG (sOf n) i fs
def upd (g:Fl) (fs:List Fl):List Fl:=if (find g.k fs).isSome then put g fs else ins g fs
theorem upd_some {g f:Fl} {fs:List Fl} (h:find g.k fs=some f):upd g fs=put g fs:=by unfold upd;rw [h];rfl
theorem upd_none {g:Fl} {fs:List Fl} (h:find g.k fs=none):upd g fs=ins g fs:=by unfold upd;rw [h];rfl
theorem oks_upd {fs:List Fl} (h:Oks fs) {g:Fl} (hg:g.Ok):Oks (upd g fs):=by
 cases hf:find g.k fs with
 | some f=>rw [upd_some hf];exact h.put hg
 | none=>rw [upd_none hf];exact h.ins hg hf
theorem sOf_lt {n:Nat} (hn:0 < n) (k:AutM.Ke):sOf n k < n:=Nat.mod_lt _ hn
theorem mem_part {c:AutM.Ke->Nat} {i:Nat} {fs:List Fl} {f:Fl}:f ∈ partG c i fs ↔ f ∈ fs/\c f.k=i:=by unfold partG;simp
theorem oks_part {fs:List Fl} (h:Oks fs) (c:AutM.Ke->Nat) (i:Nat):Oks (partG c i fs):=⟨fun f hf=>h.ok f (mem_part.1 hf).1,List.Pairwise.filter _ h.srt⟩
theorem find_part {fs:List Fl} (h:Oks fs) (c:AutM.Ke->Nat) (k:AutM.Ke):find k (partG c (c k) fs)=find k fs:=by
 cases hf:find k fs with
 | some f =>
  obtain ⟨hm,hk⟩:=find_some hf
  have:=(oks_part h c (c k)).find_of (mem_part.2 ⟨hm,by rw [hk]⟩)
  rwa [hk] at this
 | none =>
  unfold find
  rw [List.find?_eq_none]
  intro f hm
  simpa using find_none hf f (mem_part.1 hm).1
theorem part_put (c:AutM.Ke->Nat) (i:Nat) (g:Fl) (fs:List Fl):partG c i (put g fs)=put g (partG c i fs):=by
 unfold partG TabM.put
 rw [List.filter_map]
 refine congrArg (List.map _) (List.filter_congr fun f _=>?_)
 show decide (c (if f.k=g.k then g else f).k=i)=_
 split
 ·rename_i e;rw [e]
 ·rfl
theorem put_none {g:Fl} {fs:List Fl} (h:∀ f ∈ fs,f.k≠g.k):put g fs=fs:=by
 unfold TabM.put
 exact (List.map_congr_left (g:=id) fun x hx=>by rw [if_neg (h x hx)];rfl).trans (List.map_id fs)
theorem part_put_ne {c:AutM.Ke->Nat} {i:Nat} {g:Fl} (h:c g.k≠i) (fs:List Fl):partG c i (put g fs)=partG c i fs:=by
 rw [part_put]
 exact put_none fun f hf e=>h (by rw [← e];exact (mem_part.1 hf).2)
theorem part_ins (c:AutM.Ke->Nat) (i:Nat) (g:Fl) (fs:List Fl):(partG c i (ins g fs)).Perm (if c g.k=i then g :: partG c i fs else partG c i fs):=by
 refine ((ins_perm g fs).filter _).trans ?_
 rw [List.filter_cons]
 by_cases h:c g.k=i
 ·rw [if_pos (by simpa using h),if_pos h];exact List.Perm.refl _
 ·rw [if_neg (by simpa using h),if_neg h];exact List.Perm.refl _
theorem part_upd_ne {c:AutM.Ke->Nat} {i:Nat} {g:Fl} (h:c g.k≠i) (fs:List Fl):(partG c i fs).Perm (partG c i (upd g fs)):=by
 unfold upd
 split
 ·rw [part_put_ne h]
 ·have:=part_ins c i g fs
  rw [if_neg h] at this
  exact this.symm
theorem part_upd {c:AutM.Ke->Nat} {g:Fl} {fs:List Fl} (ho:Oks fs):(upd g (partG c (c g.k) fs)).Perm (partG c (c g.k) (upd g fs)):=by
 have hf:=find_part ho c g.k
 unfold upd
 rw [hf]
 split
 ·rw [part_put]
 ·have:=part_ins c (c g.k) g fs
  rw [if_pos rfl] at this
  exact (ins_perm g _).trans this.symm
theorem len_upd (g:Fl) (fs:List Fl):(upd g fs).length<=fs.length+1:=by
 unfold upd;split
 ·rw [len_put];omega
 ·rw [len_ins];exact Nat.le_refl _
structure TR (w:World) (O:Nat->Prop) (B mb n S:Nat) (M:Nat->Nat) (fs:List Fl):Prop where
 blk:Blk w B #[ptr mb,.slice (some ⟨S,0,none⟩) n n] 131
 row:∀ i,i < n->w.cell? ⟨S,i,none⟩=some (.map (some (M i)))
 map:∀ i,i < n->MapAt w (M i) (part n i fs)
 inj:∀ i j,i < n->j < n->M i=M j->i=j
 ns:S≠B
 nm:∀ i,i < n->M i≠B/\M i≠S
 ob:O B
 os:O S
 om:∀ i,i < n->O (M i)
 lt:∀ j,O j->j < w.heap.size
section
variable {w w':World} {O O':Nat->Prop} {B mb n S:Nat} {M:Nat->Nat} {fs fs':List Fl}
theorem TR.keep (H:TR w O B mb n S M fs) (hs:w.heap.size<=w'.heap.size) (h:∀ k,O k->w'.heap[k]? = w.heap[k]?):TR w' O B mb n S M fs where
 blk:=H.blk.keep (h _ H.ob)
 row:=fun i hi=>(World.cell?_of_block (w:=w) (a:=⟨S,i,none⟩) (h S H.os)).trans (H.row i hi)
 map:=fun i hi=>(H.map i hi).keep (h _ (H.om i hi))
 inj:=H.inj
 ns:=H.ns
 nm:=H.nm
 ob:=H.ob
 os:=H.os
 om:=H.om
 lt:=fun j hj=>Nat.lt_of_lt_of_le (H.lt j hj) hs
theorem TR.far (H:TR w O B mb n S M fs) (h:Only O' w w') (hd:∀ j,O j->¬ O' j):TR w' O B mb n S M fs:=H.keep h.size fun k hk=>h.block k (H.lt k hk) (hd k hk)
theorem TR.next (H:TR w O B mb n S M fs) (hb:Below w.heap.size w w'):TR w' O B mb n S M fs:=H.far (O':=fun _=>False) (Only.of_below hb) (fun _ _ e=>e)
theorem TR.turn (H:TR w O B mb n S M fs) {i:Nat} (hi:i < n) (ho:Only (· = M i) w w') (hm:MapAt w' (M i) (part n i fs')) (hp:∀ j,j < n->j≠i->(part n j fs).Perm (part n j fs')):TR w' O B mb n S M fs' where
 blk:=H.blk.only ho (fun e=>(H.nm i hi).1 e.symm)
 row:=fun j hj=>(ho.cell (p:=⟨S,j,none⟩) (H.lt _ H.os) (fun e=>(H.nm i hi).2 e.symm)).trans (H.row j hj)
 map:=fun j hj=>by
  by_cases e:j=i
  ·subst e;exact hm
  ·exact ((H.map j hj).keep (ho.block _ (H.lt _ (H.om j hj)) (fun e2=>e (H.inj j i hj hi e2)))).perm (hp j hj e)
 inj:=H.inj
 ns:=H.ns
 nm:=H.nm
 ob:=H.ob
 os:=H.os
 om:=H.om
 lt:=fun j hj=>Nat.lt_of_lt_of_le (H.lt j hj) ho.size
end
def TAt (w:World) (O:Nat->Prop) (B mb n:Nat) (fs:List Fl):Prop:=(∃ S M,TR w O B mb n S M fs)/\Oks fs/\isPow (n:Int)=true
section
variable {w w':World} {O O':Nat->Prop} {B mb n:Nat} {fs:List Fl}
theorem TAt.far (H:TAt w O B mb n fs) (h:Only O' w w') (hd:∀ j,O j->¬ O' j):TAt w' O B mb n fs:=by
 obtain ⟨⟨S,M,h1⟩,h2⟩:=H
 exact ⟨⟨S,M,h1.far h hd⟩,h2⟩
theorem TAt.next (H:TAt w O B mb n fs) (hb:Below w.heap.size w w'):TAt w' O B mb n fs:=H.far (O':=fun _=>False) (Only.of_below hb) (fun _ _ e=>e)
theorem TAt.lt_ (H:TAt w O B mb n fs):∀ j,O j->j < w.heap.size:=by obtain ⟨⟨S,M,h1⟩,h2⟩:=H;exact h1.lt
theorem TAt.pos (H:TAt w O B mb n fs):1<=n/\n<=4096:=by have:=KeyM.isPow_bd H.2.2;omega
end
structure Fw extends World where
 F:Nat->Obj->Prop
 lo:Nat:=0
def Fw.add (w:Fw) (g:Nat) (o:Obj):Fw:={ w with F:=fun j x=>w.F j x\/(j=g/\x=o) }
def Fw.with (w:Fw) (O:Nat->Prop) (W:World):Fw:={ w with F:=fun j x=>w.F j x\/(O j/\W.heap[j]? = some x) }
structure TM (w:Fw) (Om Ot:Nat->Prop) (mb B:Nat) (ms:Ms) (n:Nat) (fs:List Fl) (W:World):Prop where
 mem:Me.MAt W Om mb ms
 tab:TAt W Ot B mb n fs
 bel:Below w.heap.size w.toWorld W
 nm:∀ j,Om j->w.heap.size<=j
 nt:∀ j,Ot j->w.heap.size<=j
 dis:∀ j,Om j->¬ Ot j
 fr:∀ j o,w.F j o->W.heap[j]? = some o
 nf:∀ j o,w.F j o->¬ Om j/\¬ Ot j
 sz:w.lo<=W.heap.size
section
variable {w:Fw} {W w':World} {Om Ot O':Nat->Prop} {mb B:Nat} {ms ms':Ms} {n:Nat} {fs fs':List Fl}
theorem some_lt {W:World} {j:Nat} {o:Obj} (h:W.heap[j]? = some o):j < W.heap.size:=(Array.getElem?_eq_some_iff.1 h).1
theorem TM.next (H:TM w Om Ot mb B ms n fs W) (hb:Below W.heap.size W w'):TM w Om Ot mb B ms n fs w':=⟨H.mem.next hb,H.tab.next hb,H.bel.trans (hb.mono H.bel.size),H.nm,H.nt,H.dis,fun j o h=>(hb.block j (some_lt (H.fr j o h))).trans (H.fr j o h),H.nf,Nat.le_trans H.sz hb.size⟩
theorem TM.left (H:TM w Om Ot mb B ms n fs W) (hp:Me.MAt w' O' mb ms') (ho:Only Om W w') (hO:∀ j,O' j->Om j\/W.heap.size<=j):TM w O' Ot mb B ms' n fs w' :=
 ⟨hp,H.tab.far ho (fun j hb ha=>H.dis j ha hb),H.bel.trans (ho.below H.nm H.bel.size),fun j hj=>(hO j hj).elim (H.nm j) (fun h=>Nat.le_trans H.bel.size h),H.nt,fun j hj hb=>(hO j hj).elim (fun h=>H.dis j h hb) (fun h=>by have:=H.tab.lt_ j hb;omega),
  fun j o h=>(ho.block j (some_lt (H.fr j o h)) (H.nf j o h).1).trans (H.fr j o h),fun j o h=>⟨fun hj=>(hO j hj).elim (H.nf j o h).1 (fun e=>by have:=some_lt (H.fr j o h);omega),(H.nf j o h).2⟩,Nat.le_trans H.sz ho.size⟩
theorem TM.right (H:TM w Om Ot mb B ms n fs W) (hp:TAt w' Ot B mb n fs') (ho:Only Ot W w'):TM w Om Ot mb B ms n fs' w' :=
 ⟨H.mem.far ho H.dis,hp,H.bel.trans (ho.below H.nt H.bel.size),H.nm,H.nt,H.dis,fun j o h=>(ho.block j (some_lt (H.fr j o h)) (H.nf j o h).2).trans (H.fr j o h),H.nf,Nat.le_trans H.sz ho.size⟩
theorem TM.add (H:TM w Om Ot mb B ms n fs W) (o:Obj):TM (w.add W.heap.size o) Om Ot mb B ms n fs (W.alloc o):=by
 have h:=H.next (w':=W.alloc o) ((Below.refl _ W).alloc (Nat.le_refl _) o)
 refine ⟨h.mem,h.tab,h.bel,h.nm,h.nt,h.dis,fun j x hx=>?_,fun j x hx=>?_,h.sz⟩
 ·rcases hx with hx | ⟨rfl,rfl⟩
  ·exact h.fr j x hx
  ·exact heap_alloc_new W _
 ·rcases hx with hx | ⟨rfl,rfl⟩
  ·exact h.nf j x hx
  ·exact ⟨fun e=>Nat.lt_irrefl _ (H.mem.lt _ e),fun e=>Nat.lt_irrefl _ (H.tab.lt_ _ e)⟩
theorem TM.drop {g:Nat} {o:Obj} (H:TM (w.add g o) Om Ot mb B ms n fs W):TM w Om Ot mb B ms n fs W:=⟨H.mem,H.tab,H.bel,H.nm,H.nt,H.dis,fun j x h=>H.fr j x (.inl h),fun j x h=>H.nf j x (.inl h),H.sz⟩
theorem TM.box {g:Nat} {cs:Array Value} {t:TypeId} (H:TM (w.add g (.cells cs t (0,0))) Om Ot mb B ms n fs W):Blk W g cs t:=H.fr g _ (.inr ⟨rfl,rfl⟩)
theorem TM.with {O:Nat->Prop} (H:TM w Om Ot mb B ms n fs W) (h:∀ j,O j->¬ Om j/\¬ Ot j):TM (w.with O W) Om Ot mb B ms n fs W :=
 ⟨H.mem,H.tab,H.bel,H.nm,H.nt,H.dis,fun j x hx=>hx.elim (H.fr j x) fun e=>e.2,fun j x hx=>hx.elim (H.nf j x) fun e=>h j e.1,H.sz⟩
theorem TM.without {O:Nat->Prop} {W0:World} (H:TM (w.with O W0) Om Ot mb B ms n fs W) (hlt:∀ j,O j->j < W0.heap.size):TM w Om Ot mb B ms n fs W/\(∀ j,O j->W.heap[j]? = W0.heap[j]?)/\∀ j,O j->¬ Om j/\¬ Ot j:=by
 have get:∀ j,O j->∃ o,W0.heap[j]? = some o:=fun j hj=>⟨_,Array.getElem?_eq_getElem (hlt j hj)⟩
 refine ⟨⟨H.mem,H.tab,H.bel,H.nm,H.nt,H.dis,fun j x h=>H.fr j x (.inl h),fun j x h=>H.nf j x (.inl h),H.sz⟩,fun j hj=>?_,fun j hj=>?_⟩
 ·obtain ⟨o,ho⟩:=get j hj
  exact (H.fr j o (.inr ⟨hj,ho⟩)).trans ho.symm
 ·obtain ⟨o,ho⟩:=get j hj
  exact H.nf j o (.inr ⟨hj,ho⟩)
end
def heldB (ms:Ms) (t i:Int):Bool:=decide (0<=t) && (holdV ms i == t)
def Td (w:Fw) (Ot:Nat->Prop) (mb B:Nat) (v:Value) (ms:Ms) (n:Nat) (fs:List Fl):Ending->World->Prop:=fun e w'=>∃ Om,e = .returned v/\TM w Om Ot mb B ms n fs w'
section
variable {w:Fw} {W:World} {Om Ot:Nat->Prop} {mb B:Nat} {ms:Ms} {n:Nat} {fs:List Fl}
theorem holds_any (H:TM w Om Ot mb B ms n fs W) (t i:Int):Calls Tryz.prog 173 #[ptr B,.int .i64 t,.int .i64 i] W fun e w'=>e = .returned (.bool (heldB ms t i))/\W=w':=by
 have HH:=Lib.hid (Me.holder_any H.mem i)
 obtain ⟨⟨S,M,h1⟩,h2⟩:=H.tab
 have c0:=h1.blk.cell 0 _ rfl
 obtain ⟨hv,hhv⟩:∃ v,holdV ms i=v:=⟨_,rfl⟩
 rw [hhv] at HH
 unfold heldB
 rw [hhv]
 clear H h1 h2 hhv
 by_cases h:0<=t
 ·rw [decide_eq_true h,Bool.true_and]
  have d1:decide (0<=t)=true:=decide_eq_true h
  obtain ⟨b,hb⟩:∃ b,(hv == t)=b:=⟨_,rfl⟩
  rw [hb]
  clear h
  go_enter Tryz.func173,Tryz.ntmps173
  go_wp2_with fail
  go_at_call 48
  refine HH.out.mono ?_
  rintro e w' ⟨rfl,rfl⟩
  go_wp2_with fail
  go_ret
  exact ⟨by first | rfl | (rw [← hb];rfl),rfl⟩
 ·rw [decide_eq_false h,Bool.false_and]
  have d1:decide (0<=t)=false:=decide_eq_false h
  clear h
  go_enter Tryz.func173,Tryz.ntmps173
  go_wp2_with fail
  go_ret
  exact ⟨rfl,rfl⟩
end
end Tb
end Go.Proofs.YtcockldefmmhbaaGreatDoor
set_option linter.unusedVariables false
set_option linter.unusedSimpArgs false
set_option maxRecDepth 100000
namespace Go.Proofs.YtcockldefmmhbaaGreatDoor
open Go.ChangeShapes Go.WideShapes Go.ChangeAt Go.RowKit Go.Mtl Go.Lib
namespace Tb
open TabM
open KeyM (isPow hashN strN)
open MemM (Ms holdV touchS)
open Me (ptr)
theorem below_box (w:World) (o:Obj):Below w.heap.size w (w.alloc o):=(Below.refl _ w).alloc (Nat.le_refl _) o
theorem str_is {n:Nat} (hn:isPow (n:Int)=true) (k:AutM.Ke):strN (hashN k.a k.b k.p k.q k.r) (n:Int)=((sOf n k:Nat):Int):=by
 rw [KeyM.strN_yes hn]
 unfold sOf
 omega
section
variable {w:Fw} {W:World} {Om Ot:Nat->Prop} {mb B:Nat} {ms:Ms} {n:Nat} {fs:List Fl}
set_option maxHeartbeats 2000000 in
theorem stripeOf_any (H:TM w Om Ot mb B ms n fs W) (t:Int) (k:AutM.Ke) (hk:k.Ok) (i:Nat) (hi:sOf n k=i) (vi ve:Int) (hv:(heldB ms t (i:Int)=true/\vi=(i:Int)/\ve=0)\/(heldB ms t (i:Int)=false/\vi=0/\ve=13)) :
  Calls Tryz.prog 203 #[ptr B,.int .i64 t,Au.kyV k] W fun e w'=>e = .returned (.tuple #[.int .i64 vi,.int .i64 ve])/\Below W.heap.size W w':=by
 have HST:Hid (∀ W,Calls Tryz.prog 66 #[.agg (Ky.kyc k.a k.b k.p k.q k.r),.int .i64 (n:Int)] W fun e w'=>e = .returned (.int .i64 (i:Int))/\Below W.heap.size W w'):=fun W =>
  Ky.stripe_any k.a k.b k.p k.q k.r (n:Int) hk.a hk.b hk.p hk.q hk.r _ rfl _ (by rw [str_is H.tab.2.2,hi]) W
 have HX:=Lib.hid (Blk.box W (Ky.kyc k.a k.b k.p k.q k.r) 87)
 have HB:=Lib.hid (below_box W (.cells (Ky.kyc k.a k.b k.p k.q k.r) 87))
 have HH1:=Lib.hid (H.next (below_box W (.cells (Ky.kyc k.a k.b k.p k.q k.r) 87)))
 have hn1:n<=4096:=H.tab.pos.2
 clear H hk hi
 go_enter Tryz.func203,Tryz.ntmps203
 go_wp2_with fail
 obtain ⟨W1,hW1⟩:∃ v,W.alloc (.cells (Ky.kyc k.a k.b k.p k.q k.r) 87)=v:=⟨_,rfl⟩
 rw [hW1] at HX HB HH1 ⊢
 clear hW1
 obtain ⟨⟨S,M,htr⟩,_⟩:=HH1.out.tab
 have HTR:=Lib.hid htr
 clear htr
 refine wp_region_held_drew (S:=fun w'=>Hid (Below W1.heap.size W1 w')) (by kernel_rfl) (Lib.hid (Below.refl _ W1).drew) (fun hH=>?_)
 refine zqt 0 (some 11) ?v1 rfl rfl ?c1 hH ?r1
 case c1=>(intro w' hS;obtain ⟨x0,x1,x2,x3,x4⟩:=Ky.ky_cells (HX.out.next hS.out);go_simp;(try with_reducible rfl))
 try simp only [Act.put,zq1,zq2,zq3]
 refine zqt 1 (some 12) ?v2 rfl rfl ?c2 hH ?r2
 case c2=>(intro w' _;go_simp;(try with_reducible rfl))
 try simp only [Act.put,zq1,zq2,zq3]
 refine zqt 2 (some 13) ?v3 rfl rfl ?c3 hH ?r3
 case c3=>(intro w' _;go_simp;(try with_reducible rfl))
 try simp only [Act.put,zq1,zq2,zq3]
 refine zqt 3 (some 14) ?v4 rfl rfl ?c4 hH ?r4
 case c4=>(intro w' _;go_simp;(try with_reducible rfl))
 try simp only [Act.put,zq1,zq2,zq3]
 refine zqt 4 (some 15) ?v5 rfl rfl ?c5 hH ?r5
 case c5=>(intro w' hS;have c1:=(HTR.out.next hS.out).blk.cell 1 _ rfl;go_simp;(try with_reducible rfl))
 try simp only [Act.put,zq1,zq2,zq3]
 refine zqt 5 (some 16) ?v6 rfl rfl ?c6 hH ?r6
 case c6=>(intro w' _;go_simp;(try with_reducible rfl))
 try simp only [Act.put,zq1,zq2,zq3]
 refine wpAnyH_ready (rs:=[6]) (by kernel_rfl) (by simp) (AllReadyH.cons rfl (fun K hK=>?_) (AllReadyH.nil))
 go_simp
 go_at_call 66
 refine (HST.out _).mono ?_
 rintro e w2 ⟨rfl,hbp⟩
 refine hK.out _ _ (Lib.hid (hH.out.trans (hbp.mono hH.out.size))) (fun hH=>?_)
 clear hK K
 clear hbp
 try simp only [Act.put,zq1,zq2,zq3]
 refine zqt 7 (some 8) ?v7 rfl rfl ?c7 hH ?r7
 case c7=>(intro w' _;go_simp;(try with_reducible rfl))
 try simp only [Act.put,zq1,zq2,zq3]
 refine wpAnyH_done (by kernel_rfl) ?_ _
 have H2:=Lib.hid (HH1.out.next hH.out)
 have HB2:=Lib.hid (HB.out.trans (hH.out.mono HB.out.size))
 clear hH HH1 HTR HX HB
 go_wp2_with fail
 go_at_call 173
 refine (holds_any H2.out t (i:Int)).mono ?_
 rcases hv with ⟨hb,rfl,rfl⟩ | ⟨hb,rfl,rfl⟩
 ·rw [hb]
  rintro e w3 ⟨rfl,rfl⟩
  clear hb
  go_wp2_with fail
  go_ret2
  exact ⟨rfl,HB2.out⟩
 ·rw [hb]
  rintro e w3 ⟨rfl,rfl⟩
  clear hb
  go_wp2_with fail
  go_ret2
  exact ⟨rfl,HB2.out⟩
structure TQ (w:Fw) (Om Ot:Nat->Prop) (mb B:Nat) (ms:Ms) (n S:Nat) (M:Nat->Nat) (fs:List Fl) (k:AutM.Ke) (gk:Nat) (W:World):Prop where
 tm:TM w Om Ot mb B ms n fs W
 tr:TR W Ot B mb n S M fs
 key:Blk W gk (Ky.kyc k.a k.b k.p k.q k.r) 87
 nk : ¬ Ot gk
end
section
variable {w:Fw} {W w':World} {Om Ot O':Nat->Prop} {mb B:Nat} {ms ms':Ms} {n S:Nat} {M:Nat->Nat} {fs fs':List Fl} {k:AutM.Ke} {gk:Nat}
theorem TQ.next (H:TQ w Om Ot mb B ms n S M fs k gk W) (hb:Below W.heap.size W w'):TQ w Om Ot mb B ms n S M fs k gk w':=⟨H.tm.next hb,H.tr.next hb,H.key.next hb,H.nk⟩
theorem TQ.drew (H:TQ w Om Ot mb B ms n S M fs k gk W):TQ w Om Ot mb B ms n S M fs k gk W.drew:=H.next (Below.refl _ W).drew
theorem TM.parts (H:TM w Om Ot mb B ms n fs W):∃ S M,TR W Ot B mb n S M fs:=H.tab.1
theorem TM.okf (H:TM w Om Ot mb B ms n fs W):Oks fs:=H.tab.2.1
end
section
variable {w:Fw} {W:World} {Om Ot:Nat->Prop} {mb B:Nat} {ms:Ms} {n:Nat} {fs:List Fl}
set_option maxHeartbeats 4000000 in
theorem put_yes (H:TM w Om Ot mb B ms n fs W) (hl:ms.ls.length<=1000000000000) (t:Int) (k:AutM.Ke) (hk:k.Ok) (x:Int) (d:Bool) (i:Nat) (hi:sOf n k=i) (hh:heldB ms t (i:Int)=true) (hx : -9223372036854775808<=x/\x<=9223372036854775807) :
  Calls Tryz.prog 201 #[ptr B,.int .i64 t,Au.kyV k,.int .i64 x,.bool d] W (Td w Ot mb B (.int .i64 0) (touchS ms t 6 (i:Int)) n (upd ⟨k,x,d⟩ fs)):=by
 have HS:Hid (∀ W',TM w Om Ot mb B ms n fs W'->Calls Tryz.prog 203 #[ptr B,.int .i64 t,Au.kyV k] W' fun e w'=>e = .returned (.tuple #[.int .i64 (i:Int),.int .i64 0])/\Below W'.heap.size W' w'):=fun W' h=>stripeOf_any h t k hk i hi (i:Int) 0 (.inl ⟨hh,rfl,rfl⟩)
 have HX:=Lib.hid (Blk.box W (Ky.kyc k.a k.b k.p k.q k.r) 87)
 have H1:=Lib.hid (H.next (below_box W (.cells (Ky.kyc k.a k.b k.p k.q k.r) 87)))
 have HOK:=Lib.hid H.okf
 have hin:i < n:=by have:=sOf_lt (n:=n) (by have:=H.tab.pos;omega) k;omega
 have HI:=Lib.hid hi
 have HLN:=Lib.hid hl
 have HKN:Hid (¬ Ot W.heap.size):=fun e=>Nat.lt_irrefl _ (H.tab.lt_ _ e)
 have HKM:Hid (¬ Om W.heap.size):=fun e=>Nat.lt_irrefl _ (H.mem.lt _ e)
 have HKO:=Lib.hid hk
 have HXB:=Lib.hid hx
 have HPU:Hid (∀ w1 m,MapAt w1 m (part n i fs)->∃ w',(Instr.mapUpdate 133 (.map (some m)) (Au.kyV k) (enW x d)).run Tryz.prog w1 = .ok () w'/\MapAt w' m (part n i (upd ⟨k,x,d⟩ fs))/\Only (· = m) w1 w'):=fun w1 m hm=>by
  have hfp:=find_part HOK.out (sOf n) k
  have hpu:=part_upd (c:=sOf n) (g:=⟨k,x,d⟩) HOK.out
  rw [hi] at hfp
  simp only [hi] at hpu
  cases hf:find k fs with
  | some f =>
   obtain ⟨w',h1,h2,h3⟩:=run_put hm (oks_part HOK.out _ _) (g:=⟨k,x,d⟩) (f:=f) (hfp.trans hf)
   rw [upd_some (g:=⟨k,x,d⟩) (hfp.trans hf)] at hpu
   exact ⟨w',h1,h2.perm hpu,h3⟩
  | none =>
   obtain ⟨w',h1,h2,h3⟩:=run_ins hm (oks_part HOK.out _ _) (g:=⟨k,x,d⟩) (hfp.trans hf)
   rw [upd_none (g:=⟨k,x,d⟩) (hfp.trans hf)] at hpu
   exact ⟨w',h1,h2.perm hpu,h3⟩
 clear hx
 clear H hk hi hh hl
 go_enter Tryz.func201,Tryz.ntmps201
 go_wp2_with fail
 go_at_call 203
 refine (HS.out _ H1.out).mono ?_
 rintro e w2 ⟨rfl,hb⟩
 have H2:=Lib.hid (H1.out.next hb)
 have HX2:=Lib.hid (HX.out.next hb)
 clear hb H1 HX HS
 obtain ⟨⟨S,M,htr⟩,_⟩:=H2.out.tab
 have c0:=htr.blk.cell 0 _ rfl
 clear htr
 go_wp2_with fail
 clear c0
 go_at_call 165
 refine (Me.write_any H2.out.mem t (i:Int) HLN.out).mono ?_
 rintro e w3 ⟨Om2,rfl,hp,ho,hO⟩
 have H3:=Lib.hid (H2.out.left hp ho hO)
 have HX3:=Lib.hid (HX2.out.only ho HKM.out)
 clear hp ho hO H2 HX2
 obtain ⟨⟨S,M,htr⟩,_⟩:=H3.out.tab
 obtain ⟨gk,hgk⟩:∃ g,W.heap.size=g:=⟨_,rfl⟩
 rw [hgk] at HX3 HKN ⊢
 have HQ:Hid (TQ w Om2 Ot mb B (touchS ms t 6 (i:Int)) n S M fs k gk w3):=⟨H3.out,htr,HX3.out,HKN.out⟩
 clear htr hgk HX3 H3
 go_wp2_with fail
 refine region_e (S:=fun w'=>Hid (TQ w Om2 Ot mb B (touchS ms t 6 (i:Int)) n S M fs k gk w')) 11 (by kernel_rfl) (Lib.hid HQ.out.drew) (fun hH=>?_)
 refine anyE_take (i:=0) (oi:=⟨some 30,_,_,_,_,_⟩) (v:=?v1) rfl (by kernel_rfl) (by kernel_rfl) (by kernel_rfl) (by kernel_rfl) (fun _ _ _ h=>h) (Or.inl ⟨rfl,?c1⟩) hH ?r1
 case c1=>(intro w' _;go_simp;(try with_reducible rfl))
 try simp only [Act.put,zq1,zq2,zq3]
 refine anyE_take (i:=1) (oi:=⟨some 31,_,_,_,_,_⟩) (v:=?v2) rfl (by kernel_rfl) (by kernel_rfl) (by kernel_rfl) (by kernel_rfl) (fun _ _ _ h=>h) (Or.inl ⟨rfl,?c2⟩) hH ?r2
 case c2=>(intro w' _;go_simp;(try with_reducible rfl))
 try simp only [Act.put,zq1,zq2,zq3]
 refine anyE_take (i:=2) (oi:=⟨some 32,_,_,_,_,_⟩) (v:=?v3) rfl (by kernel_rfl) (by kernel_rfl) (by kernel_rfl) (by kernel_rfl) (fun _ _ _ h=>h) (Or.inl ⟨rfl,?c3⟩) hH ?r3
 case c3=>(intro w' _;go_simp;(try with_reducible rfl))
 try simp only [Act.put,zq1,zq2,zq3]
 refine anyE_take (i:=3) (oi:=⟨some 33,_,_,_,_,_⟩) (v:=?v4) rfl (by kernel_rfl) (by kernel_rfl) (by kernel_rfl) (by kernel_rfl) (fun _ _ _ h=>h) (Or.inl ⟨rfl,?c4⟩) hH ?r4
 case c4=>(intro w' hS;have c1:=hS.out.tr.blk.cell 1 _ rfl;go_simp;(try with_reducible rfl))
 try simp only [Act.put,zq1,zq2,zq3]
 refine anyE_take (i:=4) (oi:=⟨some 34,_,_,_,_,_⟩) (v:=?v5) rfl (by kernel_rfl) (by kernel_rfl) (by kernel_rfl) (by kernel_rfl) (fun _ _ _ h=>h) (Or.inl ⟨rfl,?c5⟩) hH ?r5
 case c5=>(intro w' _;go_simp;(try with_reducible rfl))
 try simp only [Act.put,zq1,zq2,zq3]
 refine anyE_take (i:=5) (oi:=⟨some 35,_,_,_,_,_⟩) (v:=?v6) rfl (by kernel_rfl) (by kernel_rfl) (by kernel_rfl) (by kernel_rfl) (fun _ _ _ h=>h) (Or.inl ⟨rfl,?c6⟩) hH ?r6
 case c6=>(intro w' hS;have hv:=hin;go_simp;(try with_reducible rfl))
 try simp only [Act.put,zq1,zq2,zq3]
 refine anyE_take (i:=6) (oi:=⟨some 36,_,_,_,_,_⟩) (v:=?v7) rfl (by kernel_rfl) (by kernel_rfl) (by kernel_rfl) (by kernel_rfl) (fun _ _ _ h=>h) (Or.inl ⟨rfl,?c7⟩) hH ?r7
 case c7=>(intro w' hS;have c1:=hS.out.tr.row i hin;go_simp;(try with_reducible rfl))
 try simp only [Act.put,zq1,zq2,zq3]
 refine anyE_take (i:=7) (oi:=⟨some 37,_,_,_,_,_⟩) (v:=?v8) rfl (by kernel_rfl) (by kernel_rfl) (by kernel_rfl) (by kernel_rfl) (fun _ _ _ h=>h) (Or.inl ⟨rfl,?c8⟩) hH ?r8
 case c8=>(intro w' hS;obtain ⟨x0,x1,x2,x3,x4⟩:=Ky.ky_cells hS.out.key;go_simp;(try with_reducible rfl))
 try simp only [Act.put,zq1,zq2,zq3]
 refine anyE_take (i:=8) (oi:=⟨some 38,_,_,_,_,_⟩) (v:=?v9) rfl (by kernel_rfl) (by kernel_rfl) (by kernel_rfl) (by kernel_rfl) (fun _ _ _ h=>h) (Or.inl ⟨rfl,?c9⟩) hH ?r9
 case c9=>(intro w' _;go_simp;(try with_reducible rfl))
 try simp only [Act.put,zq1,zq2,zq3]
 refine anyE_take (i:=9) (oi:=⟨some 39,_,_,_,_,_⟩) (v:=?v10) rfl (by kernel_rfl) (by kernel_rfl) (by kernel_rfl) (by kernel_rfl) (fun _ _ _ h=>h) (Or.inl ⟨rfl,?c10⟩) hH ?r10
 case c10=>(intro w' _;go_simp;(try with_reducible rfl))
 try simp only [Act.put,zq1,zq2,zq3]
 refine anyE_take (i:=10) (oi:=⟨some 40,_,_,_,_,_⟩) (v:=?v11) rfl (by kernel_rfl) (by kernel_rfl) (by kernel_rfl) (by kernel_rfl) (fun _ _ _ h=>h) (Or.inl ⟨rfl,?c11⟩) hH ?r11
 case c11=>(intro w' _;go_simp;(try with_reducible rfl))
 try simp only [Act.put,zq1,zq2,zq3]
 refine anyE_ready (rs:=[11]) (by kernel_rfl) (by simp) (AllE.end_ rfl (fun K hK=>?_))
 obtain ⟨w4,hrun,hm4,ho4⟩:=HPU.out _ _ (hH.out.tr.map i hin)
 have HTN:=Lib.hid (TM.right hH.out.tm (fs':=upd ⟨k,x,d⟩ fs) ⟨⟨S,M,hH.out.tr.turn hin ho4 hm4 (fun j hj hne=>part_upd_ne (fun e=>hne (e.symm.trans HI.out)) fs)⟩,oks_upd HOK.out ⟨HKO.out,HXB.out.1,HXB.out.2⟩,hH.out.tm.tab.2.2⟩ (ho4.mono (fun j e=>e ▸ hH.out.tr.om i hin)))
 go_simp
 refine hK.out _ _ ?_
 clear hK K
 try simp only [Act.put,zq1,zq2,zq3]
 refine anyE_done (by kernel_rfl) ?_ _
 go_wp2_with fail
 go_ret
 exact ⟨_,rfl,HTN.out⟩
end
end Tb
end Go.Proofs.YtcockldefmmhbaaGreatDoor
set_option linter.unusedVariables false
set_option linter.unusedSimpArgs false
namespace Go.Proofs.YtcockldefmmhbaaGreatDoor
namespace Pg
open MemM (Ms lookV loadS swapB swapS holdV lockB lockS unlockS touchS moreS)
open RulM (R)
open MatM (K fst accB)
open AutM (Ke)
open Tb (sOf heldB upd)
structure Pt where
 kd:Int
 t:Int
 op:Int
 k:Ke
 v:Int
 n:Int
def k0:Ke:=⟨0,0,0,0,0⟩
def p0:Pt:=⟨0,0,0,k0,0,0⟩
structure Cf where
 n:Nat
 N:Int
 T:Nat->Int
structure Sh where
 ms:Ms
 fs:List TabM.Fl
 rl:Int->List R
 pts:List Pt
inductive At
 | find | release | load | judge | advance | sure | look | again | over | kill | less | leave | absent | enter | unlock
 | malformed | count | add | readClock | tick | claim | prepare | publish | disclaim | stat | take | visit | inspect | finish | endOp | done
 deriving DecidableEq
structure Rn where
 t:Int
 op:Int
 at_:At
 mu:Int
 cal:Bool
 en:Bool
 e:Int
 v:Int
 n:Int
 z:Int
 li:List R
 p:K
 dn:Bool
 q:Nat
 st:Nat
 ks:List Ke
 k:Ke
 x:Int
 tu:Bool
 tn:Int
 mr:Nat
 wf:Int
 wg:Int
 wc:Int
def cG (x:Int):Int:=x % 1099511627776
def kG (x:Int):Int:=x / 1099511627776 % 4096
def vG (x:Int):Int:=x / 4503599627370496
def cF (x:Int):Int:=x % 1099511627776
def nF (x:Int):Int:=x / 1099511627776 % 1048576
def sF (x:Int):Int:=x / 1152921504606846976
def W64 (x:Int):Prop:=0<=x/\x<=18446744073709551615
theorem fitG {x:Int} (h:W64 x):GatM.Fit (cG x) (kG x) (vG x):=by
 obtain ⟨_,_⟩:=h;unfold cG kG vG;exact ⟨by omega,by omega,by omega,by omega,by omega,by omega⟩
theorem isG {x:Int} (h:W64 x):x=GatM.gI (cG x) (kG x) (vG x):=by
 obtain ⟨_,_⟩:=h;unfold cG kG vG GatM.gI;omega
theorem wG {c k v:Int} (h:GatM.Fit c k v):W64 (GatM.gI c k v)/\cG (GatM.gI c k v)=c/\kG (GatM.gI c k v)=k/\vG (GatM.gI c k v)=v:=by
 obtain ⟨_,_,_,_,_,_⟩:=h;unfold W64 cG kG vG GatM.gI;omega
def tickW (x n:Int):Int:=GatM.gI (Ga.later (cG x) n) (kG x) (vG x)
def enterB (N x:Int):Bool:=decide (¬ N<=kG x/\kG x≠4095)
def enterW (N x:Int):Int:=if enterB N x then GatM.gI (cG x) (kG x+1) (vG x) else x
def leaveW (x:Int):Int:=if kG x=0 then x else GatM.gI (cG x) (kG x - 1) (vG x)
def swapW (x:Int):Int:=if vG x=4095 then x else GatM.gI (cG x) (kG x) (vG x+1)
def swapV (x:Int):Int:=if vG x=4095 then vG x else vG x+1
def nextW (x s u:Int):Int:=FloM.gI (Fl.clip u) (Fl.up (nF x)) (s % 16)
def overW (x c:Int):Bool:=Fl.overB (cF x) (nF x) (sF x) c
def deadW:Int:=FloM.gI 0 0 15
theorem fit_tick {x:Int} (h:W64 x) (n:Int):GatM.Fit (Ga.later (cG x) n) (kG x) (vG x):=by
 have h1:=fitG h
 have h2:=Ga.later_fit (n:=n) h1
 obtain ⟨_,_,_,_,_,_⟩:=h1
 exact ⟨by omega,by omega,by omega,by omega,by omega,by omega⟩
theorem w_tick {x:Int} (h:W64 x) (n:Int):W64 (tickW x n):=(wG (fit_tick h n)).1
def say (S:Sh) (r:Rn) (kd:Int) (k:Ke) (v n:Int):Sh:={ S with pts:=S.pts ++ [⟨kd,r.t,r.op,k,v,n⟩] }
def endA (S:Sh) (r:Rn):Sh × Rn:=(say S r 8 k0 r.v r.n,{ r with at_:=.done,en:=true })
def goto (r:Rn) (a:At):Rn:={ r with at_:=a }
def lockTo (r:Rn) (m:Int) (a:At):Rn:={ r with at_:=a,mu:=m }
def countedA (S:Sh) (r:Rn):Sh × Rn:=endA (say S r 3 k0 r.v 0) r
def ldS (S:Sh) (r:Rn) (i:Int):Sh:={ S with ms:=loadS S.ms r.t i }
def ldG (S:Sh) (r:Rn):Rn:={ r with wg:=lookV S.ms 0 }
def ldF (S:Sh) (r:Rn):Rn:={ r with wf:=lookV S.ms r.x }
def ldC (S:Sh) (r:Rn):Rn:={ r with wc:=lookV S.ms r.v }
def swS (S:Sh) (r:Rn) (i old now:Int):Sh:={ S with ms:=swapS S.ms r.t i old now }
def isOver (r:Rn):Bool:=overW r.wf (cG r.wg)
def countA (S:Sh) (r:Rn):Sh × Rn :=
 if lookV S.ms r.v=18446744073709551615 then countedA (ldS S r r.v) (ldC S r) else (ldS S r r.v,goto (ldC S r) .add)
def addA (S:Sh) (r:Rn):Sh × Rn :=
 if swapB S.ms r.v r.wc then countedA (swS S r r.v r.wc ((r.wc+1) % 18446744073709551616)) r else (swS S r r.v r.wc ((r.wc+1) % 18446744073709551616),goto r .count)
def hasB (C:Cf) (S:Sh) (r:Rn):Bool:=heldB S.ms r.t ((sOf C.n r.k:Nat):Int)
def fndO (C:Cf) (S:Sh) (r:Rn):Option TabM.Fl:=if hasB C S r then TabM.find r.k S.fs else none
def toS (C:Cf) (S:Sh) (r:Rn) (kd:Int):Sh:=if hasB C S r then { S with ms:=touchS S.ms r.t kd ((sOf C.n r.k:Nat):Int) } else S
def fndR (C:Cf) (S:Sh) (r:Rn):Rn:=match fndO C S r with
 | some f=>{ r with x:=f.x,tu:=f.dn }
 | none=>{ r with x:=0,tu:=false }
def remS (C:Cf) (S:Sh) (r:Rn):Sh:=if hasB C S r then { S with ms:=touchS S.ms r.t 6 ((sOf C.n r.k:Nat):Int),fs:=TabM.drop r.k S.fs } else S
def putS (C:Cf) (S:Sh) (r:Rn) (x:Int):Sh:=if hasB C S r then { S with ms:=touchS S.ms r.t 6 ((sOf C.n r.k:Nat):Int),fs:=upd ⟨r.k,x,r.dn⟩ S.fs } else S
def findA (C:Cf) (S:Sh) (r:Rn):Sh × Rn:=(toS C S r 5,goto (fndR C S r) (if (fndO C S r).isSome then .release else .absent))
def lookA (C:Cf) (S:Sh) (r:Rn):Sh × Rn:=(toS C S r 5,goto (fndR C S r) (if (fndO C S r).isSome then .again else .absent))
def freeS (S:Sh) (r:Rn) (m:Int):Sh:={ S with ms:=unlockS S.ms r.t m }
def releaseA (S:Sh) (r:Rn):Sh × Rn:=(freeS S r r.st,goto r .load)
def loadA (S:Sh) (r:Rn):Sh × Rn:=(ldS S r r.x,if sF (lookV S.ms r.x)=15 then lockTo (ldF S r) r.st .find else goto (ldF S r) .judge)
def neB (r:Rn):Bool:=Fs.neB (sF r.wf) (r.dn != r.tu) (r.p.pr:Int) (r.p.fl:Int) (r.p.kd:Int)
def neN (r:Rn):Int:=Fs.neN (sF r.wf) (r.dn != r.tu) (r.p.pr:Int) (r.p.fl:Int) (r.p.kd:Int)
def markS (S:Sh):Sh:={ S with pts:=S.pts ++ [p0] }
def markR (S:Sh) (r:Rn):Rn:={ r with mr:=S.pts.length }
def judgeR (r:Rn):Rn:=if isOver r then lockTo r r.st .look else if neB r then { r with tn:=neN r,at_:=.advance } else goto r .sure
def judgeA (S:Sh) (r:Rn):Sh × Rn:=(markS (ldS S r 0),judgeR (markR S (ldG S r)))
def fillS (S:Sh) (r:Rn) (v:Int):Sh:={ S with pts:=S.pts.set r.mr ⟨2,r.t,r.op,r.k,v,0⟩ }
def changeA (S:Sh) (r:Rn) (s u v:Int):Sh × Rn :=
 if swapB S.ms r.x r.wf then (fillS (swS S r r.x r.wf (nextW r.wf s u)) r v,{ r with v:=v,at_:=.count }) else (swS S r r.x r.wf (nextW r.wf s u),goto r .load)
def untilN (C:Cf) (r:Rn):Int:=Fs.untN C.T r.tn (cG r.wg)
def advanceA (C:Cf) (S:Sh) (r:Rn):Sh × Rn:=changeA S r r.tn (untilN C r) 1
def sureA (S:Sh) (r:Rn):Sh × Rn:=changeA S r (sF r.wf) (cF r.wf) 4
def againA (S:Sh) (r:Rn):Sh × Rn:=(ldS S r r.x,goto (ldF S r) .over)
def overA (S:Sh) (r:Rn):Sh × Rn:=(ldS S r 0,goto (ldG S r) (if isOver (ldG S r) then .kill else .release))
def sweeps (q:Nat):Bool:=q == 4 || q == 6
def killA (C:Cf) (S:Sh) (r:Rn):Sh × Rn :=
 if swapB S.ms r.x r.wf then (remS C (swS S r r.x r.wf deadW) r,goto r .less) else (swS S r r.x r.wf deadW,goto r (if sweeps r.q then .visit else .again))
def lessA (S:Sh) (r:Rn):Sh × Rn:=(ldS S r 0,goto (ldG S r) .leave)
def proceedR (r:Rn):Rn:=match r.ks with
 | []=>goto r .finish
 | k :: ks=>{ r with k:=k,ks:=ks,at_:=.visit }
def goneR (r:Rn):Rn:=if sweeps r.q then proceedR { r with n:=IntKind.i64.wrap (r.n+1) } else goto r .absent
def leaveA (S:Sh) (r:Rn):Sh × Rn :=
 if swapB S.ms 0 r.wg then (say (swS S r 0 r.wg (leaveW r.wg)) r 4 r.k 0 (if r.q=4 then 1 else 0),goneR r) else (swS S r 0 r.wg (leaveW r.wg),goto r .less)
def opB (r:Rn):Bool:=Fs.opB (r.p.pr:Int) (r.p.fl:Int) (r.p.kd:Int)
def opN (r:Rn):Int:=Fs.opN (r.p.pr:Int) (r.p.fl:Int) (r.p.kd:Int)
def admitV (C:Cf) (r:Rn) (l:List R):Int:=if accB l (fst r.p l)=false then 3 else if opB r=false then 4 else if enterB C.N r.wg=false then 5 else 1
def decideA (S:Sh) (r:Rn) (v:Int):Sh × Rn:=(say S r 2 r.k v 0,{ r with v:=v,at_:=.unlock })
def readS (C:Cf) (S:Sh) (r:Rn):Sh:={ S with ms:=touchS S.ms r.t 5 ((C.n:Int)+vG r.wg) }
def absentR (C:Cf) (S:Sh) (r:Rn):Sh × Rn :=
 if admitV C r (S.rl (vG r.wg))=1 then (readS C S r,{ r with tn:=opN r,at_:=.enter }) else decideA (readS C S r) r (admitV C r (S.rl (vG r.wg)))
def absentA (C:Cf) (S:Sh) (r:Rn):Sh × Rn:=absentR C (ldS S r 0) (ldG S r)
def mewS (S:Sh) (x:Int):Sh:={ S with ms:=moreS S.ms x }
def enterA (C:Cf) (S:Sh) (r:Rn):Sh × Rn :=
 if swapB S.ms 0 r.wg then
  decideA (putS C (mewS (swS S r 0 r.wg (enterW C.N r.wg)) (nextW 0 r.tn (untilN C r))) r ((swS S r 0 r.wg (enterW C.N r.wg)).ms.ws.length:Int)) r 1
 else (swS S r 0 r.wg (enterW C.N r.wg),goto r .absent)
def unlockA (S:Sh) (r:Rn):Sh × Rn:=(freeS S r r.st,goto r .count)
def malformedA (S:Sh) (r:Rn):Sh × Rn:=countA (say S r 2 k0 2 0) { r with v:=2 }
def readClockA (S:Sh) (r:Rn):Sh × Rn:=(ldS S r 0,goto (ldG S r) .tick)
def tickA (S:Sh) (r:Rn):Sh × Rn :=
 if swapB S.ms 0 r.wg then endA (say (swS S r 0 r.wg (tickW r.wg r.z)) r 5 k0 0 r.z) { r with n:=Ga.later (cG r.wg) r.z } else (swS S r 0 r.wg (tickW r.wg r.z),goto r .readClock)
def claimA (S:Sh) (r:Rn):Sh × Rn:=(S,goto r .prepare)
def setL (rl:Int->List R) (i:Int) (l:List R):Int->List R:=fun j=>if j=i then l else rl j
def writeS (C:Cf) (S:Sh) (r:Rn):Sh:={ S with ms:=touchS S.ms r.t 6 ((C.n:Int)+(vG r.wg+1)),rl:=setL S.rl (vG r.wg+1) r.li }
def prepareR (C:Cf) (S:Sh) (r:Rn):Sh × Rn:=if vG r.wg=4095 then (S,{ r with e:=2,at_:=.disclaim }) else (writeS C S r,goto r .publish)
def prepareA (C:Cf) (S:Sh) (r:Rn):Sh × Rn:=prepareR C (ldS S r 0) (ldG S r)
def publishA (S:Sh) (r:Rn):Sh × Rn :=
 if swapB S.ms 0 r.wg then
  (say { swS S r 0 r.wg (swapW r.wg) with rl:=setL S.rl (swapV r.wg - 1) [] } r 6 k0 0 (swapV r.wg),{ r with n:=swapV r.wg,at_:=.disclaim })
 else (swS S r 0 r.wg (swapW r.wg),goto r .prepare)
def disclaimA (C:Cf) (S:Sh) (r:Rn):Sh × Rn:=endA (freeS S r C.n) r
def statA (S:Sh) (r:Rn):Sh × Rn :=
 endA (say (ldS S r r.z) r 7 k0 r.z (IntKind.i64.wrap (lookV S.ms r.z))) { r with n:=IntKind.i64.wrap (lookV S.ms r.z) }
def keysL (C:Cf) (S:Sh) (r:Rn):List Ke:=if r.st < C.n/\heldB S.ms r.t (r.st:Int)=true then (Tb.part C.n r.st S.fs).map (·.k) else []
def keysS (C:Cf) (S:Sh) (r:Rn):Sh:=if r.st < C.n/\heldB S.ms r.t (r.st:Int)=true then { S with ms:=touchS S.ms r.t 5 (r.st:Int) } else S
def takeA (C:Cf) (S:Sh) (r:Rn):Sh × Rn:=(keysS C S r,proceedR { r with ks:=keysL C S r })
def visitA (C:Cf) (S:Sh) (r:Rn):Sh × Rn :=
 (ldS (toS C S r 5) (fndR C S r) (fndR C S r).x,goto (ldF (toS C S r 5) (fndR C S r)) (if r.q=4 then .kill else .inspect))
def inspectA (S:Sh) (r:Rn):Sh × Rn:=(ldS S r 0,if isOver (ldG S r) then goto (ldG S r) .kill else proceedR (ldG S r))
def finishA (C:Cf) (S:Sh) (r:Rn):Sh × Rn :=
 if r.st+1=C.n then endA (freeS S r r.st) { r with st:=r.st+1 } else (freeS S r r.st,lockTo { r with st:=r.st+1 } ((r.st+1:Nat):Int) .take)
def actA (C:Cf) (S:Sh) (r:Rn):Sh × Rn:=match r.at_ with
 | .find=>findA C S r
 | .release=>releaseA S r
 | .load=>loadA S r
 | .judge=>judgeA S r
 | .advance=>advanceA C S r
 | .sure=>sureA S r
 | .look=>lookA C S r
 | .again=>againA S r
 | .over=>overA S r
 | .kill=>killA C S r
 | .less=>lessA S r
 | .leave=>leaveA S r
 | .absent=>absentA C S r
 | .enter=>enterA C S r
 | .unlock=>unlockA S r
 | .malformed=>malformedA S r
 | .count=>countA S r
 | .add=>addA S r
 | .readClock=>readClockA S r
 | .tick=>tickA S r
 | .claim=>claimA S r
 | .prepare=>prepareA C S r
 | .publish=>publishA S r
 | .disclaim=>disclaimA C S r
 | .stat=>statA S r
 | .take=>takeA C S r
 | .visit=>visitA C S r
 | .inspect=>inspectA S r
 | .finish=>finishA C S r
 | .endOp=>endA S r
 | .done=>(S,r)
def canB (S:Sh) (r:Rn):Bool:=decide (r.at_ ≠ .done) && (r.mu == -1 || lockB S.ms r.t r.mu)
def lockedS (S:Sh) (r:Rn):Sh:=if r.mu=-1 then S else { S with ms:=lockS S.ms r.t r.mu }
def calledS (S:Sh) (r:Rn):Sh:=if r.cal then S else say S r 1 k0 0 0
def stepA (C:Cf) (S:Sh) (r:Rn):Sh × Rn:=if canB S r then actA C (calledS (lockedS S r) r) { r with mu:=-1,cal:=true } else (S,r)
def r0 (t op:Int):Rn:=⟨t,op,.endOp,-1,false,false,0,0,0,0,[],⟨0,0,0,0,0,0,0⟩,false,0,0,[],k0,0,false,0,0,0,0,0⟩
structure Fit (C:Cf) (S:Sh) (r:Rn):Prop where
 wf:W64 r.wf
 wg:W64 r.wg
 wc:W64 r.wc
 k:r.k.Ok
 p:r.p.Ok
 st:r.st<=C.n
 cn:C.n<=4096
 cT:∀ i,-9223372036854775808<=C.T i/\C.T i<=9223372036854775807
 z : -9223372036854775808<=r.z/\r.z<=9223372036854775807
 mr:r.at_ = .advance\/r.at_ = .sure->r.mr < S.pts.length
 q:r.at_ = .kill\/r.at_ = .less\/r.at_ = .leave->r.q=1\/sweeps r.q=true
 tt:0<=r.t/\r.t<=9223372036854775807
structure Rm (n:Nat) (S:Sh):Prop where
 l:S.ms.ls.length+n<=1000000000000
 f:S.fs.length+n<=100000
 p:S.pts.length+n<=900000000000
 w:S.ms.ws.length+n < 1000000000000
theorem len_say (s:Ms) (t k p:Int):(MemM.say s t k p).ls.length=s.ls.length+1/\(MemM.say s t k p).ws=s.ws:=by unfold MemM.say;simp
theorem len_swap (s:Ms) (t i o x:Int):(swapS s t i o x).ls.length<=s.ls.length+1/\(swapS s t i o x).ws.length=s.ws.length:=by
 unfold swapS;split
 ·split
  ·have:=len_say { s with ws:=s.ws.set i.toNat x } t 4 (3 * i);rw [this.1,this.2];exact ⟨by simp,by simp⟩
  ·have:=len_say s t 3 (3 * i);rw [this.1,this.2];exact ⟨by omega,rfl⟩
 ·exact ⟨by omega,rfl⟩
theorem len_lock (s:Ms) (t i:Int):(lockS s t i).ls.length<=s.ls.length+1/\(lockS s t i).ws.length=s.ws.length:=by
 unfold lockS;split
 ·have:=len_say { s with hs:=s.hs.set i.toNat t } t 1 (3 * i+1);rw [this.1,this.2];exact ⟨by simp,rfl⟩
 ·exact ⟨by omega,rfl⟩
theorem len_unlock (s:Ms) (t i:Int):(unlockS s t i).ls.length<=s.ls.length+1/\(unlockS s t i).ws.length=s.ws.length:=by
 unfold unlockS;split
 ·have:=len_say { s with hs:=s.hs.set i.toNat (-1) } t 2 (3 * i+1);rw [this.1,this.2];exact ⟨by simp,rfl⟩
 ·exact ⟨by omega,rfl⟩
theorem len_touch (s:Ms) (t k i:Int):(touchS s t k i).ls.length<=s.ls.length+1/\(touchS s t k i).ws.length=s.ws.length:=by
 unfold touchS;split
 ·have:=len_say s t k (3 * i+2);rw [this.1,this.2];exact ⟨by omega,rfl⟩
 ·exact ⟨by omega,rfl⟩
section
variable {n:Nat} {C:Cf} {S:Sh} {r:Rn}
theorem Rm.mono (h:Rm n S) {m:Nat} (hm:m<=n):Rm m S:=⟨by have:=h.l;omega,by have:=h.f;omega,by have:=h.p;omega,by have:=h.w;omega⟩
theorem Rm.sw (h:Rm (n+1) S) (i o x:Int):Rm n (swS S r i o x):=by
 have:=len_swap S.ms r.t i o x
 exact ⟨by have:=h.l;show (swapS S.ms r.t i o x).ls.length+n<=_;omega,by have:=h.f;show S.fs.length+n<=_;omega,by have:=h.p;show S.pts.length+n<=_;omega,by have:=h.w;show (swapS S.ms r.t i o x).ws.length+n < _;omega⟩
theorem Rm.free (h:Rm (n+1) S) (i:Int):Rm n (freeS S r i):=by
 have:=len_unlock S.ms r.t i
 exact ⟨by have:=h.l;show (unlockS S.ms r.t i).ls.length+n<=_;omega,by have:=h.f;show S.fs.length+n<=_;omega,by have:=h.p;show S.pts.length+n<=_;omega,by have:=h.w;show (unlockS S.ms r.t i).ws.length+n < _;omega⟩
theorem Rm.touch (h:Rm (n+1) S) (k i:Int):Rm n { S with ms:=touchS S.ms r.t k i }:=by
 have:=len_touch S.ms r.t k i
 exact ⟨by have:=h.l;show (touchS S.ms r.t k i).ls.length+n<=_;omega,by have:=h.f;show S.fs.length+n<=_;omega,by have:=h.p;show S.pts.length+n<=_;omega,by have:=h.w;show (touchS S.ms r.t k i).ws.length+n < _;omega⟩
theorem Rm.to (h:Rm (n+1) S) (k:Int):Rm n (toS C S r k):=by
 unfold toS;split
 ·exact h.touch k _
 ·exact h.mono (by omega)
theorem Rm.put (h:Rm (n+1) S) (x:Int):Rm n (putS C S r x):=by
 unfold putS;split
 ·have:=len_touch S.ms r.t 6 ((sOf C.n r.k:Nat):Int)
  have h2:=Tb.len_upd ⟨r.k,x,r.dn⟩ S.fs
  exact ⟨by have:=h.l;show (touchS S.ms r.t 6 _).ls.length+n<=_;omega,by have:=h.f;show (upd ⟨r.k,x,r.dn⟩ S.fs).length+n<=_;omega,by have:=h.p;show S.pts.length+n<=_;omega,by have:=h.w;show (touchS S.ms r.t 6 _).ws.length+n < _;omega⟩
 ·exact h.mono (by omega)
theorem Rm.say (h:Rm (n+1) S) (kd:Int) (k:Ke) (v x:Int):Rm n (say S r kd k v x) :=
 ⟨by have:=h.l;show S.ms.ls.length+n<=_;omega,by have:=h.f;show S.fs.length+n<=_;omega,by have:=h.p;simp only [Pg.say,List.length_append,List.length_cons,List.length_nil];omega,by have:=h.w;show S.ms.ws.length+n < _;omega⟩
theorem Rm.mark (h:Rm (n+1) S):Rm n (markS S) :=
 ⟨by have:=h.l;show S.ms.ls.length+n<=_;omega,by have:=h.f;show S.fs.length+n<=_;omega,by have:=h.p;simp only [markS,List.length_append,List.length_cons,List.length_nil];omega,by have:=h.w;show S.ms.ws.length+n < _;omega⟩
end
end Pg
end Go.Proofs.YtcockldefmmhbaaGreatDoor
set_option linter.unusedVariables false
set_option linter.unusedSimpArgs false
namespace Go.Proofs.YtcockldefmmhbaaGreatDoor
open Go.Mtl
namespace Pg
open RulM (R)
open AutM (Ke)
open MatM (K)
open IpM (four four_lt)
open WirM (errW spN dpN flN kdN)
def rz (t op:Int):Rn:={ r0 t op with at_:=.done }
def refuseR (r:Rn) (x:Int):Rn:={ r with e:=x,at_:=.endOp }
def dnP (p:K):Bool:=KeyM.lowB p.ds p.dp p.sr p.sp
def keyP (p:K):Ke:=if dnP p then ⟨p.ds,p.sr,p.dp,p.sp,p.pr⟩ else ⟨p.sr,p.ds,p.sp,p.dp,p.pr⟩
theorem keyP_ok {p:K} (h:p.Ok):(keyP p).Ok:=by
 have:=h.pr;have:=h.sr;have:=h.ds;have:=h.sp;have:=h.dp
 unfold keyP;split <;> exact ⟨by assumption,by assumption,by assumption,by assumption,by assumption⟩
def pkR (bs:List UInt8):K:=⟨byt bs 9,four bs 12,four bs 16,spN bs,dpN bs,flN bs,kdN bs⟩
theorem pkR_ok (bs:List UInt8):(pkR bs).Ok:=⟨byt_lt bs 9,four_lt bs 12,four_lt bs 16,WirM.spN_lt bs,WirM.dpN_lt bs,by have:=WirM.flN_lt bs;show flN bs < 256;omega,WirM.kdN_lt bs⟩
def packR (C:Cf) (r:Rn) (bs:List UInt8):Rn :=
 if errW bs=0 then { r with p:=pkR bs,k:=keyP (pkR bs),dn:=dnP (pkR bs),st:=Tb.sOf C.n (keyP (pkR bs)),q:=1,mu:=((Tb.sOf C.n (keyP (pkR bs)):Nat):Int),at_:=.find }
 else { r with e:=(errW bs:Int),at_:=.malformed }
def swpR (C:Cf) (r:Rn) (l:List UInt8):Rn:=if (RulM.compile l).2.2=0 then { r with li:=(RulM.compile l).1,mu:=(C.n:Int),at_:=.claim } else refuseR r ((RulM.compile l).2.2:Int)
def sweepR (r:Rn) (fl:Bool):Rn:={ r with q:=if fl then 4 else 6,mu:=(r.st:Int),at_:=.take }
def statR (r:Rn) (n:Int):Rn:=if 1<=n/\n<=5 then { r with z:=n,at_:=.stat } else refuseR r 1
def begR (C:Cf) (t op kd n:Int) (bs l:List UInt8):Rn :=
 if kd=1 then packR C (rz t op) bs else if kd=2 then { rz t op with z:=n,at_:=.readClock } else if kd=3 then swpR C (rz t op) l
 else if kd=4 then sweepR (rz t op) true else if kd=6 then sweepR (rz t op) false else if kd=5 then statR (rz t op) n else refuseR (rz t op) 1
end Pg
end Go.Proofs.YtcockldefmmhbaaGreatDoor
set_option linter.unusedVariables false
set_option linter.unusedSimpArgs false
set_option maxRecDepth 100000
namespace Go.Proofs.YtcockldefmmhbaaGreatDoor
open Go.ChangeShapes Go.WideShapes Go.ChangeAt Go.RowKit Go.Mtl Go.Lib
namespace Tb
open TabM
open KeyM (isPow)
open MemM (Ms)
open Me (ptr)
theorem count_ones (x:Int) (w:World):Calls Tryz.prog 59 #[.int .u64 x] w fun e w'=>e = .returned (.int .i64 (Au.ones x))/\w=w':=by
 have HO:=Lib.hid (fun W=>Au.ones_any x W)
 generalize Au.ones x=y at HO
 go_enter Tryz.func59,Tryz.ntmps59
 go_wp2_with (go_at_call 92;refine (HO.out _).mono ?_;rintro e w' ⟨rfl,rfl⟩)
 go_ret
 exact ⟨rfl,rfl⟩
theorem pow_is {z:Int} (h1:1<=z) (h2:z<=4096):(Au.ones z == 1)=isPow z:=by
 have e:z=((⟨z.toNat,by omega⟩:Fin 4097).val:Int):=by simp;omega
 have h:=Au.ones_pow ⟨z.toNat,by omega⟩
 rwa [← e] at h
theorem flows_info:(Tryz.prog.info? 133).map (fun i=>(i.zero,i.size,i.bytes))=some (some (.map none),1,8):=by kernel_rfl
def mrow (n j:Nat) (M:Nat->Nat):List Value:=(List.range n).map fun i=>if i < j then .map (some (M i)) else .map none
theorem mrow_at {n j:Nat} {M:Nat->Nat} {i:Nat} (hi:i < n):(mrow n j M)[i]? = some (if i < j then .map (some (M i)) else .map none):=by
 unfold mrow
 rw [List.getElem?_map,List.getElem?_range hi]
 rfl
theorem made_maps (n:Nat) (M:Nat->Nat):(madeCells (Value.map none).cells (n * 1)).toList=mrow n 0 M:=by
 rw [show (Value.map none).cells = #[.map none] from rfl,toList_madeCells_one]
 unfold mrow
 apply List.ext_getElem?
 intro i
 simp [List.getElem?_replicate,List.getElem?_range]
 by_cases h:i < n
 ·simp [h,List.getElem?_range]
 ·simp [h,List.getElem?_eq_none]
def mset (M:Nat->Nat) (j m:Nat) (i:Nat):Nat:=if i=j then m else M i
theorem mrow_set {n j m:Nat} {M:Nat->Nat} (hj:j < n):(mrow n j M).toArray.setIfInBounds j (.map (some m))=(mrow n (j+1) (mset M j m)).toArray:=by
 rw [List.setIfInBounds_toArray]
 congr 1
 apply List.ext_getElem?
 intro i
 by_cases hi:i < n
 ·rw [List.getElem?_set,mrow_at (j:=j+1) hi]
  by_cases e:j=i
  ·subst e
   rw [if_pos rfl,if_pos (by unfold mrow;simpa using hj),if_pos (by omega)]
   rw [show mset M j m j=m from if_pos rfl]
  ·rw [if_neg e,mrow_at hi]
   rw [show mset M j m i=M i from if_neg (fun h=>e h.symm)]
   by_cases h2:i < j
   ·rw [if_pos h2,if_pos (by omega)]
   ·rw [if_neg h2,if_neg (by omega)]
 ·rw [List.getElem?_eq_none (by simp [mrow];omega),List.getElem?_eq_none (by simp [mrow];omega)]
structure NW (w0:World) (mb B n S:Nat) (M:Nat->Nat) (j:Nat) (W:World):Prop where
 blk:Blk W B #[ptr mb,.slice (some ⟨S,0,none⟩) n n] 131
 row:Blk W S (mrow n j M).toArray 133
 map:∀ i,i < j->MapAt W (M i) []
 inj:∀ i i',i < j->i' < j->M i=M i'->i=i'
 ns:S≠B
 nm:∀ i,i < j->M i≠B/\M i≠S
 nb:w0.heap.size<=B
 nS:w0.heap.size<=S
 nM:∀ i,i < j->w0.heap.size<=M i
 bel:Below w0.heap.size w0 W
section
variable {w0 W:World} {mb B n S j:Nat} {M:Nat->Nat}
theorem NW.step (H:NW w0 mb B n S M j W) (hj:j < n):NW w0 mb B n S (mset M j W.heap.size) (j+1) ((W.alloc (.map #[] 0)).setCell ⟨S,j,none⟩ (.map (some W.heap.size))):=by
 have hS:=H.row.lt
 have hB:=H.blk.lt
 have hset:∀ i,i < j->mset M j W.heap.size i=M i:=fun i hi=>if_neg (by omega)
 have hself:mset M j W.heap.size j=W.heap.size:=if_pos rfl
 have hMl:∀ i,i < j->M i < W.heap.size:=fun i hi=>(H.map i hi).lt
 have ho:∀ g,g≠S->((W.alloc (.map #[] 0)).setCell ⟨S,j,none⟩ (.map (some W.heap.size))).heap[g]? = (W.alloc (.map #[] 0)).heap[g]?:=fun g hg=>Below.heap_setCell _ _ _ _ hg
 refine ⟨?_,?_,fun i hi=>?_,fun i i' hi hi' e=>?_,H.ns,fun i hi=>?_,H.nb,H.nS,fun i hi=>?_,?_⟩
 ·exact (H.blk.alloc _).keep (ho B H.ns.symm)
 ·have:=(H.row.alloc (.map #[] 0)).set' j (.map (some W.heap.size)) (mrow_set (M:=M) (m:=W.heap.size) hj)
  exact this
 ·by_cases e:i=j
  ·subst e
   rw [hself]
   exact (MapAt.new W).keep (ho _ (by omega))
  ·rw [hset i (by omega)]
   exact (H.map i (by omega)).keep ((ho _ (H.nm i (by omega)).2).trans (Below.heap_alloc _ _ _ (hMl i (by omega))))
 ·by_cases e1:i=j <;> by_cases e2:i'=j
  ·omega
  ·subst e1;rw [hself,hset i' (by omega)] at e;have:=hMl i' (by omega);omega
  ·subst e2;rw [hself,hset i (by omega)] at e;have:=hMl i (by omega);omega
  ·rw [hset i (by omega),hset i' (by omega)] at e;exact H.inj i i' (by omega) (by omega) e
 ·by_cases e:i=j
  ·subst e;rw [hself];omega
  ·rw [hset i (by omega)];exact H.nm i (by omega)
 ·by_cases e:i=j
  ·subst e;rw [hself];exact H.bel.size
  ·rw [hset i (by omega)];exact H.nM i (by omega)
 ·exact (H.bel.alloc H.bel.size _).setCell (p:=⟨S,j,none⟩) (by have:=H.nS;simpa using this) _
theorem NW.done (H:NW w0 mb B n S M n W) (hn:isPow (n:Int)=true):TAt W (fun j=>w0.heap.size<=j/\j < W.heap.size) B mb n []/\∀ j,(w0.heap.size<=j/\j < W.heap.size)->w0.heap.size<=j:=by
 refine ⟨⟨⟨S,M,H.blk,fun i hi=>?_,fun i hi=>H.map i hi,H.inj,H.ns,H.nm,⟨H.nb,H.blk.lt⟩,⟨H.nS,H.row.lt⟩,fun i hi=>⟨H.nM i hi,(H.map i hi).lt⟩,fun j hj=>hj.2⟩,Oks.nil,hn⟩,fun j hj=>hj.1⟩
 have:=H.row.cell i (.map (some (M i))) (by
  rw [List.getElem?_toArray,mrow_at hi,if_pos hi])
 exact this
end
set_option maxHeartbeats 2000000 in
theorem new_ok (w:World) (mb n:Nat) (hp:isPow (n:Int)=true):Calls Tryz.prog 33 #[ptr mb,.int .i64 (n:Int)] w fun e w'=>∃ O B,e = .returned (ptr B)/\TAt w' O B mb n []/\Below w.heap.size w w'/\∀ j,O j->w.heap.size<=j:=by
 have hb:=KeyM.isPow_bd hp
 have HP:=Lib.hid (pow_is hb.1 hb.2)
 have HO:=Lib.hid (fun W=>count_ones (n:Int) W)
 have hw:IntKind.u64.wrap (n:Int)=n:=by simp [IntKind.wrap,IntKind.bits,IntKind.signed];omega
 generalize Au.ones (n:Int)=oz at HP HO
 have hq:(oz == 1)=true:=HP.out.trans hp
 have HPW:=Lib.hid hp
 obtain ⟨i0,hi0,hz0,hz1,hz2⟩:=info_parts flows_info
 have HI:Hid (Tryz.prog.info? 133=some i0/\i0.zero=some (.map none)/\i0.size=1/\i0.bytes=8):=⟨hi0,hz0,hz1,hz2⟩
 have d1:decide ((n:Int) < 1)=false:=decide_eq_false (by omega)
 have d2:decide ((4096:Int) < n)=false:=decide_eq_false (by omega)
 have hn1:n<=4096:=by omega
 clear hp HP hi0 hz0 hz1 hz2 hb
 go_enter Tryz.func33,Tryz.ntmps33
 go_wp2_with fail
 go_at_call 59
 refine (HO.out _).mono ?_
 rintro e w1 ⟨rfl,rfl⟩
 go_wp2_with (at_make;refine wpList_make_full _ rfl (.tmp 24) (.tmp 24) _ rfl w.heap.size 133 i0 _ 1 Tryz.underlying129 HI.out.1 HI.out.2.1 HI.out.2.2.1 .i64 .i64 (n:Int) (n:Int) n rfl rfl rfl rfl (by rw [HI.out.2.2.2];omega) (by unfold maxLen;omega) (Nat.le_refl _) ?_;intro w1 hown hgr;rw [made_maps n (fun _=>0)] at hown;have HG:=Lib.hid (Me.own_whole hown);have HB:=Lib.hid ((Below.refl w.heap.size w).grown hgr (Nat.le_refl _) (fun k e=>by cases e));clear hown hgr)
 have h0:NW w mb w1.heap.size n w.heap.size (fun _=>0) 0 (w1.alloc (.cells #[ptr mb,.slice (some ⟨w.heap.size,0,none⟩) n n] 131)):=by
  have hr:Blk w1 w.heap.size (mrow n 0 (fun _=>0)).toArray 133:=HG.out
  have hlt:=hr.lt
  exact ⟨Blk.box w1 _ _,hr.alloc _,fun i hi=>absurd hi (by omega),fun i i' hi=>absurd hi (by omega),by omega,fun i hi=>absurd hi (by omega),HB.out.size,Nat.le_refl _,fun i hi=>absurd hi (by omega),HB.out.alloc HB.out.size _⟩
 have H0:=Lib.hid h0
 have HC0:=Lib.hid (h0.blk.cell 1 _ rfl)
 obtain ⟨B,hB⟩:∃ g,w1.heap.size=g:=⟨_,rfl⟩
 obtain ⟨S,hS⟩:∃ g,w.heap.size=g:=⟨_,rfl⟩
 obtain ⟨w2,hw2⟩:∃ v,w1.alloc (.cells #[ptr mb,.slice (some ⟨w.heap.size,0,none⟩) n n] 131)=v:=⟨_,rfl⟩
 rw [hw2] at H0 HC0 ⊢
 rw [hS] at H0 HC0 ⊢
 rw [hB] at H0 HC0 ⊢
 have HSS:Hid (w.heap.size=S):=hS
 clear hw2 hS hB h0 HG HB
 have c1:=HC0.out
 go_wp2_with fail
 go_loopw [33] (fun vi wr=>∃ (j:Nat) (M:Nat->Nat),vi = .int .i64 (j:Int)/\j<=n/\Hid (NW w mb B n S M j wr)) (fun vi _=>n - (RowKit.intOf vi).toNat)
 case atStart=>exact ⟨0,_,rfl,Nat.zero_le _,H0⟩
 case round =>
  obtain ⟨j,M,rfl,hj,HN⟩:=hrel
  clear c1 HC0 H0
  by_cases h1:j < n
  ·have c1:=HN.out.blk.cell 1 _ rfl
   have HST:=Lib.hid (HN.out.step h1)
   have HC2:=Lib.hid ((HN.out.blk.alloc (.map #[] 0)).cell 1 _ rfl)
   have hcell:=(HN.out.row.alloc (.map #[] 0)).cell j (.map none) (by rw [List.getElem?_toArray,mrow_at h1,if_neg (Nat.lt_irrefl _)])
   have hfr:=(HN.out.row.alloc (.map #[] 0)).frozen j
   have hmm:∀ w,(Instr.makeMap 133 none).run Tryz.prog w = .ok (.map (some w.heap.size)) (w.alloc (.map #[] 0)):=fun w=>rfl
   go_wp2_with fail
   go_roundw
   case rel=>exact ⟨j+1,_,by go_num,by omega,HST⟩
   case measure=>simp [RowKit.intOf];omega
  ·obtain rfl:j=n:=by omega
   have c1:=HN.out.blk.cell 1 _ rfl
   go_wp2_with fail
   go_ret
   exact ⟨_,B,rfl,(HN.out.done HPW.out).1,HN.out.bel,(HN.out.done HPW.out).2⟩
end Tb
end Go.Proofs.YtcockldefmmhbaaGreatDoor
