/- Several texts of this proof in one file, each in its own namespace. -/
import Derived.Test.YtcockldefmmhbaaGreatDoorJ33
import Derived.Test.YtcockldefmmhbaaGreatDoorJ28
import Derived.Test.YtcockldefmmhbaaGreatDoorJ31
import Derived.Test.YtcockldefmmhbaaGreatDoorFloB
import Derived.Test.YtcockldefmmhbaaGreatDoorFsmB
import Derived.Test.YtcockldefmmhbaaGreatDoorRulO
import Derived.Deep.RegionHeldLaw
import Derived.Deep.RegionHeld3
import Derived.Test.YtcockldefmmhbaaGreatDoorJ23
import Derived.Test.YtcockldefmmhbaaGreatDoorJ10
import Derived.Test.YtcockldefmmhbaaGreatDoorJ34
import Derived.Test.YtcockldefmmhbaaGreatDoorJ42
import Derived.Test.YtcockldefmmhbaaGreatDoorJ13
import Derived.Deep.MidRow
import Derived.Test.YtcockldefmmhbaaGreatDoorComQ
import Derived.Test.YtcockldefmmhbaaGreatDoorJ2
set_option linter.unusedVariables false
set_option linter.unusedSimpArgs false
set_option maxRecDepth 100000
namespace Go.Proofs.YtcockldefmmhbaaGreatDoor
open Go.ChangeShapes Go.WideShapes Go.ChangeAt Go.RowKit Go.Mtl Go.Lib
namespace Au
open AutM
open RulM (R)
structure Env (w:World):Prop where
 ga:Ga.Env w
 fl:Fl.Env w
 ah:Ah.Env w
theorem Env.below {w w':World} (h:Env w) (hb:Below w.heap.size w w'):Env w':=⟨h.ga.below hb (Nat.le_refl _),h.fl.below hb (Nat.le_refl _),h.ah.below hb⟩
structure Far (j:Nat):Prop where
 ga:j≠0
 fl:j≠2
 ah:j≠10
theorem Env.only {O:Nat->Prop} {w w':World} (h:Env w) (ho:Only O w w') (hf:∀ j,O j->Far j):Env w':=by
 have hga:w'.heap[0]? = w.heap[0]?:=ho.block _ h.ga.lt fun e=>(hf _ e).ga rfl
 have hfl:w'.heap[2]? = w.heap[2]?:=ho.block _ h.fl.lt fun e=>(hf _ e).fl rfl
 have hah:w'.heap[10]? = w.heap[10]?:=ho.block _ (Ah.var_lt Ah.gTab h.ah.tab) fun e=>(hf _ e).ah rfl
 have cga:∀ i,w'.cell? ⟨0,i,none⟩=w.cell? ⟨0,i,none⟩:=fun i=>World.cell?_of_block (w:=w) hga
 have cfl:∀ i,w'.cell? ⟨2,i,none⟩=w.cell? ⟨2,i,none⟩:=fun i=>World.cell?_of_block (w:=w) hfl
 refine ⟨?_,?_,⟨?_⟩⟩
 ·obtain ⟨c0,c1,c2,c3,c4,c5,c6,c7,c8⟩:=h.ga
  exact ⟨(cga _).trans c0,(cga _).trans c1,(cga _).trans c2,(cga _).trans c3,(cga _).trans c4,(cga _).trans c5,(cga _).trans c6,(cga _).trans c7,(cga _).trans c8⟩
 ·obtain ⟨c0,c1,c2,c3,c4,c5,c6,c7,c8⟩:=h.fl
  exact ⟨(cfl _).trans c0,(cfl _).trans c1,(cfl _).trans c2,(cfl _).trans c3,(cfl _).trans c4,(cfl _).trans c5,(cfl _).trans c6,(cfl _).trans c7,(cfl _).trans c8⟩
 ·have ht:=h.ah.tab
  have e:w'.var? Tryz.prog "internal/strconv.uint64pow10" = w.var? Tryz.prog "internal/strconv.uint64pow10":=by
   unfold World.var?
   simp only [Ah.gTab,Option.bind_some,hah]
  unfold TabIs at ht ⊢
  rw [e]
  exact ht
theorem Env.new {w:World} (h:Env w) {j:Nat} (hj:w.heap.size<=j):Far j :=
 ⟨by have:=h.ga.lt;omega,by have:=h.fl.lt;omega,by have:=Ah.var_lt Ah.gTab h.ah.tab;omega⟩
structure St where
 c:Int
 g:Int
 v:Int
 rl:List R
 fs:List Fl
 tl:Nat->Int
structure Inv (N:Int) (s:St):Prop where
 fit:GatM.Fit s.c s.g s.v
 cnt:s.g=s.fs.length
 cap:s.g<=N
 cap1:N<=4095
 oks:Oks s.fs
 rls:∀ r ∈ s.rl,r.Ok
 few:s.rl.length<=64
 tl:∀ i,0<=s.tl i/\s.tl i < 18446744073709551616
theorem Rds.only {O:Nat->Prop} {w w':World} {v:Value} {rs:List R} (h:Rds w w.heap.size v rs) (ho:Only O w w') (hn:0 < rs.length->∀ a n c,v = .slice (some a) n c->¬ O a.block):Rds w' w'.heap.size v rs:=by
 obtain ⟨A',cap',h1,h2,h3,h4⟩:=h
 refine ⟨A',cap',h1,h2,h3,fun hp=>?_⟩
 obtain ⟨b,off,rfl,hb,hc⟩:=h4 hp
 exact ⟨b,off,rfl,Nat.lt_of_lt_of_le hb ho.size,fun j u hu=>(ho.cell (p:=⟨b,off+j,none⟩) hb (hn hp ⟨b,off,none⟩ _ _ h1)).trans (hc j u hu)⟩
section
variable {w w':World} {O O':Nat->Prop} {B M:Nat} {N:Int} {T:Nat->Int} {x:Int} {li:Value} {rl:List R} {fs:List Fl} {t:Nat->Int}
end
end Au
end Go.Proofs.YtcockldefmmhbaaGreatDoor
set_option linter.unusedVariables false
set_option linter.unusedSimpArgs false
set_option maxRecDepth 100000
namespace Go.Proofs.YtcockldefmmhbaaGreatDoor
open Go.ChangeShapes Go.WideShapes Go.ChangeAt Go.RowKit Go.Mtl Go.Lib
namespace Au
open AutM
open RulM (R)
abbrev ptr (B:Nat):Value:=.pointer (some ⟨B,0,none⟩)
theorem below_box (w:World) (o:Obj):Below w.heap.size w (w.alloc o):=(Below.refl _ w).alloc (Nat.le_refl _) o
theorem below_then {w w1 w2:World} (h:Below w.heap.size w w1) (h2:Below w1.heap.size w1 w2):Below w.heap.size w w2:=h.trans (h2.mono h.size)
end Au
end Go.Proofs.YtcockldefmmhbaaGreatDoor
set_option linter.unusedVariables false
set_option linter.unusedSimpArgs false
set_option maxRecDepth 100000
namespace Go.Proofs.YtcockldefmmhbaaGreatDoor
open Go.ChangeShapes Go.WideShapes Go.ChangeAt Go.RowKit Go.Mtl Go.Lib
namespace Au
open AutM
open RulM (R)
section
variable {w0 w w':World} {O:Nat->Prop} {B M:Nat} {N:Int} {T:Nat->Int} {x:Int} {li:Value} {rl:List R} {fs:List Fl} {t:Nat->Int} {g:Nat} {cs:Array Value} {ty:TypeId}
end
end Au
end Go.Proofs.YtcockldefmmhbaaGreatDoor
set_option linter.unusedVariables false
set_option linter.unusedSimpArgs false
set_option maxRecDepth 100000
namespace Go.Proofs.YtcockldefmmhbaaGreatDoor
open Go.ChangeShapes Go.WideShapes Go.ChangeAt Go.RowKit Go.Mtl Go.Lib
namespace Au
open AutM
open RulM (R)
open MatM (K)
abbrev sx (T:Nat->Int):Array Value:=#[.int .i64 (T 0),.int .i64 (T 1),.int .i64 (T 2),.int .i64 (T 3),.int .i64 (T 4),.int .i64 (T 5),.int .i64 (T 6),.int .i64 (T 7),.int .i64 (T 8),.int .i64 (T 9),.int .i64 (T 10),.int .i64 (T 11),.int .i64 (T 12),.int .i64 (T 13),.int .i64 (T 14),.int .i64 (T 15)]
theorem six {T:Nat->Int} (h:∀ i,-9223372036854775808<=T i/\T i<=9223372036854775807):Fs.Six (sx T) T where
 size:=rfl
 cell:=fun i hi=>by
  obtain rfl | rfl | rfl | rfl | rfl | rfl | rfl | rfl | rfl | rfl | rfl | rfl | rfl | rfl | rfl | rfl:i=0\/i=1\/i=2\/i=3\/i=4\/i=5\/i=6\/i=7\/i=8\/i=9\/i=10\/i=11\/i=12\/i=13\/i=14\/i=15:=by omega
  all_goals rfl
 fit:=fun i _=>h i
end Au
end Go.Proofs.YtcockldefmmhbaaGreatDoor
set_option linter.unusedVariables false
set_option linter.unusedSimpArgs false
set_option maxRecDepth 100000
namespace Go.Proofs.YtcockldefmmhbaaGreatDoor
open Go.ChangeShapes Go.WideShapes Go.ChangeAt Go.RowKit Go.Mtl Go.Lib
namespace Au
open AutM
open RulM (R)
open MatM (K)
end Au
end Go.Proofs.YtcockldefmmhbaaGreatDoor
set_option linter.unusedVariables false
set_option linter.unusedSimpArgs false
set_option maxRecDepth 100000
namespace Go.Proofs.YtcockldefmmhbaaGreatDoor
open Go.ChangeShapes Go.WideShapes Go.ChangeAt Go.RowKit Go.Mtl Go.Lib
namespace Au
open AutM
open RulM (R)
open MatM (K fst accB idxI)
end Au
end Go.Proofs.YtcockldefmmhbaaGreatDoor
set_option linter.unusedVariables false
set_option linter.unusedSimpArgs false
set_option maxRecDepth 100000
namespace Go.Proofs.YtcockldefmmhbaaGreatDoor
open Go.ChangeShapes Go.WideShapes Go.ChangeAt Go.RowKit Go.Mtl Go.Lib
namespace Au
open AutM
open RulM (R goodR)
open Ma (Ten ten_at)
def fitE (rs:List R):Int:=if 64 < rs.length then 14 else if rs.all goodR then 0 else 1
theorem fit_many {rs:List R} (h:64 < rs.length):fitE rs=14:=if_pos h
theorem fit_ok {rs:List R} (h : ¬ 64 < rs.length) (hg:∀ (i:Nat) q,i < rs.length->rs[i]? = some q->goodR q=true):fitE rs=0:=by
 unfold fitE
 rw [if_neg h,if_pos (List.all_eq_true.2 fun q hq=>by obtain ⟨i,hi⟩:=List.mem_iff_getElem?.1 hq;exact hg i q (List.getElem?_eq_some_iff.1 hi).1 hi)]
theorem fit_bad {rs:List R} (h : ¬ 64 < rs.length) {i:Nat} {q:R} (hi:rs[i]? = some q) (hq:goodR q=false):fitE rs=1:=by
 unfold fitE
 rw [if_neg h,if_neg]
 intro ha
 have:=List.all_eq_true.1 ha q (List.mem_of_getElem? hi)
 rw [hq] at this;cases this
theorem fit_len {rs:List R} (h:fitE rs=0):rs.length<=64:=by
 unfold fitE at h
 split at h
 ·cases h
 ·omega
def few (rs:List R):List R:=if 70 < rs.length then rs.take 70 else rs
theorem few_ok {rs:List R} (h:∀ r ∈ rs,r.Ok):∀ r ∈ few rs,r.Ok:=by
 unfold few;intro r hr;split at hr
 ·exact h r (List.mem_of_mem_take hr)
 ·exact h r hr
theorem own_none (w:World) (T:TypeId) (base:Nat) (hb:base<=w.heap.size):(w.alloc (.cells #[] T)).ownsRow base T 10 (.slice (some ⟨w.heap.size,0,none⟩) 0 0) 0 []:=by
 refine ⟨rfl,.inr ⟨w.heap.size,0,#[],rfl,hb,heap_alloc_new w _,Nat.le_refl _,by unfold maxLen;omega,rfl,rfl⟩⟩
theorem own_rds {w:World} {base T:Nat} {v:Value} {rs:List R} (h:w.ownsRow base T 10 v rs.length (cellsRs rs)):Rds w w.heap.size v rs/\(0 < rs.length->∀ a n c,v = .slice (some a) n c->base<=a.block):=by
 refine ⟨Rds.of_own h,fun hp a n c e=>?_⟩
 rcases h.2 with ⟨h1,h2⟩ | ⟨g,cap,cur,h1,h2,_⟩
 ·omega
 ·rw [h1] at e;injection e with e;injection e with e;rw [← e];exact h2
theorem nil_eq (A:Option Addr) (n c:Nat) (W:World):(binOp .eql 25 (.slice A n c) (.slice none 0 0)).run Tryz.prog W = .ok (.bool A.isNone) W:=by
 have h:(Op.equal 25 (.slice A n c) (.slice none 0 0)).run Tryz.prog W = .ok A.isNone W:=by
  show (Op.equalIn (9999+1) 25 _ _).run _ _=_
  rw [Op.equalIn]
  cases A <;> simp [run_underlying Tryz.underlying25]
 simp [binOp,h]
theorem wpList_append_rds {w W0:World} {ops:Array Oper} {rest:List Oper} {o:Oper} {a:Act} {Q:Exit->Act->World->Prop} (hgd:o.guard=none) (s x:Operand)
  (ho:o.op = .call { callee:=.builtin .append,args:=#[s,x],argTypes:=#[25,25] })
  (v:Value) (xs:List R) (hs:a.eval s=v) (hown:w.ownsRow W0.heap.size 80 10 v xs.length (cellsRs xs)) (hbel:Below W0.heap.size W0 w)
  (B:Nat) (A:Option Addr) (m c:Nat) (ys:List R) (hx:a.eval x = .slice A m c) (hm:ys.length=m) (hr:Rds w B (.slice A m c) ys) (hlen:xs.length+m<=100000)
  (h:∀ v' w',Hid (w'.ownsRow W0.heap.size 80 10 v' (xs ++ ys).length (cellsRs (xs ++ ys)))->Hid (Below W0.heap.size W0 w')->wpList Tryz.prog ops Q rest (a.put o.dst v') w') :
  wpList Tryz.prog ops Q (o :: rest) a w:=by
 have h1:=Ma.step_append_rds (Kt:=wpList Tryz.prog ops Q rest) (Q:=Q) (ops:=ops) (E:=False) W0 hgd s x ho v xs hs hown hbel B A m c ys hx hm hr hlen h
 have hw:Region.wanted o (yielded ops a.tmps)=true:=by simp [Region.wanted,hgd]
 rw [if_pos hw] at h1
 unfold wpList
 rw [if_pos hw]
 exact .inl h1
theorem clone_any (A:Option Addr) (n c:Nat) (rs:List R) (w:World) (hn:rs.length=n) (hr:Rds w w.heap.size (.slice A n c) rs) (hm:n<=100000) :
  Calls Tryz.prog 34 #[.slice A n c] w fun e w'=>∃ v,e = .returned v/\Rds w' w'.heap.size v rs/\(0 < rs.length->∀ a n c,v = .slice (some a) n c->w.heap.size<=a.block)/\Below w.heap.size w w':=by
 rcases A with _ | ad
 ·have h0:rs=[]:=by
   obtain ⟨A',c',e,_,_,h4⟩:=hr
   injection e with e1 e2 e3
   subst e1
   rcases Nat.eq_zero_or_pos rs.length with h | h
   ·exact List.eq_nil_of_length_eq_zero h
   ·obtain ⟨b,off,e,_⟩:=h4 h;cases e
  subst h0
  have heq:=nil_eq none n c
  simp only [Option.isNone_none] at heq
  clear hr hm
  go_enter Tryz.func34,Tryz.ntmps34
  go_wp2_with fail
  go_ret
  exact ⟨_,rfl,Rds.nil _ _,fun h=>absurd h (by simp),Below.refl _ _⟩
 ·have HB:=Lib.hid (below_box w (.cells #[] 80))
  have HR:=Lib.hid (hr.keep fun p hp=>HB.out.cell hp)
  have HN:=Lib.hid hn
  have HM:=Lib.hid hm
  have heq:=nil_eq (some ad) n c
  simp only [Option.isNone_some] at heq
  clear hr hn hm
  go_enter Tryz.func34,Tryz.ntmps34
  go_wp2_with (at_builtin;(refine wpList_append_rds (W0:=w) rfl (.tmp 5) (.tmp 6) rfl _ [] rfl (own_none w 80 w.heap.size (Nat.le_refl _)) HB.out w.heap.size (some ad) n c rs rfl HN.out HR.out (by simp;exact HM.out) ?_;intro v' w' H1 H2))
  go_ret
  exact ⟨_,rfl,(own_rds H1.out).1,(own_rds H1.out).2,H2.out⟩
set_option maxHeartbeats 2000000 in
theorem check_any (A:Option Addr) (n c:Nat) (rs:List R) (w:World) (he:Env w) (hn:rs.length=n) (hr:Rds w w.heap.size (.slice A n c) rs) (ho:∀ r ∈ rs,r.Ok) :
  Calls Tryz.prog 60 #[.slice A n c] w fun e w'=>e = .returned (.int .i64 (fitE rs))/\Below w.heap.size w w':=by
 by_cases h64:64 < n
 ·have HF:=Lib.hid (fit_many (rs:=rs) (by omega))
  have hm:n<=maxLen:=by obtain ⟨A',c',e,h1,h2,_⟩:=hr;omega
  unfold maxLen at hm
  clear he hn hr ho
  go_enter Tryz.func60,Tryz.ntmps60
  go_wp2_with fail
  go_ret
  exact ⟨by rw [HF.out];rfl,Below.refl _ _⟩
 have HRS:=Lib.hid hr
 have HN:=Lib.hid hn
 have HO:=Lib.hid ho
 have HE:=Lib.hid he
 clear he hn hr ho
 go_enter Tryz.func60,Tryz.ntmps60
 go_wp2_with fail
 go_loopw [10] (fun i wr=>∃ j:Nat,j<=n/\i = .int .i64 (j:Int)/\Hid (Below w.heap.size w wr)/\Hid (∀ (i:Nat) q,i < j->rs[i]? = some q->goodR q=true)) (fun i _=>n - (RowKit.intOf i).toNat)
 case atStart=>exact ⟨0,by omega,rfl,Below.refl _ _,(show Hid _ from fun i q hi=>absurd hi (Nat.not_lt_zero _))⟩
 case round =>
  obtain ⟨j,hj,rfl,HB,hbe⟩:=hrel
  by_cases hlt:j < n
  ·obtain ⟨r,hrj⟩:∃ x,rs[j]? = some x:=⟨_,List.getElem?_eq_getElem (by have:=HN.out;omega)⟩
   obtain ⟨b,off,cap,hv,hg,ht⟩:=ten_at HRS.out hrj
   injection hv with hv1 hv2 hv3
   subst hv1 hv3
   obtain ⟨x0,x1,x2,x3,x4,x5,x6,x7,x8,x9⟩:=ht.below HB.out hg
   have HX:=Lib.hid (Ma.RAt.box wr r)
   have HW:=Lib.hid (below_then HB.out (below_box wr (.cells (Ma.rK r) 80)))
   have HG:=Lib.hid (Ah.good_any r (HO.out r (List.mem_of_getElem? hrj)) (wr.alloc (.cells (Ma.rK r) 80)) (HE.out.below HW.out).ah)
   obtain ⟨y0,y1,y2,y3,y4,y5,y6,y7,y8,y9⟩:=HX.out.cells
   have HRJ:=Lib.hid hrj
   clear hrj ht hv2 hg
   cases hh:goodR r with
   | true =>
    rw [hh] at HG
    have HF:Hid (∀ (i:Nat) q,i < j+1->rs[i]? = some q->goodR q=true):=by
     show ∀ (i:Nat) q,i < j+1->rs[i]? = some q->goodR q=true
     intro i q hi hq
     by_cases e:i=j
     ·subst e
      rw [HRJ.out] at hq
      injection hq with hq
      rw [← hq];exact hh
     ·exact hbe.out i q (by omega) hq
    clear hh
    go_wp2_with fail
    refine HG.out.mono ?_
    rintro e w1 ⟨rfl,hb⟩
    have HB1:=Lib.hid (below_then HW.out hb)
    clear hb x0 x1 x2 x3 x4 x5 x6 x7 x8 x9 y0 y1 y2 y3 y4 y5 y6 y7 y8 y9
    go_wp2_with fail
    go_roundw
    case rel=>exact ⟨j+1,by omega,by go_num,HB1.out,HF.out⟩
    case measure=>simp [RowKit.intOf];omega
   | false =>
    rw [hh] at HG
    have HF:=Lib.hid (fit_bad (rs:=rs) (by have:=HN.out;omega) HRJ.out hh)
    clear hh
    go_wp2_with fail
    refine HG.out.mono ?_
    rintro e w1 ⟨rfl,hb⟩
    have HB1:=Lib.hid (below_then HW.out hb)
    clear hb x0 x1 x2 x3 x4 x5 x6 x7 x8 x9 y0 y1 y2 y3 y4 y5 y6 y7 y8 y9
    go_wp2_with fail
    go_ret
    exact ⟨by rw [HF.out];rfl,HB1.out⟩
  ·obtain rfl:j=n:=by omega
   have HF:=Lib.hid (fit_ok (rs:=rs) (by have:=HN.out;omega) (by rw [HN.out];exact hbe.out))
   go_wp2_with fail
   go_ret
   exact ⟨by rw [HF.out];rfl,HB.out⟩
end Au
end Go.Proofs.YtcockldefmmhbaaGreatDoor
set_option linter.unusedVariables false
set_option linter.unusedSimpArgs false
set_option maxRecDepth 100000
namespace Go.Proofs.YtcockldefmmhbaaGreatDoor
open Go.ChangeShapes Go.WideShapes Go.ChangeAt Go.RowKit Go.Mtl Go.Lib
namespace Au
open AutM
open RulM (R)
open MatM (K fst accB idxI)
open KeyM (lowB)
def dnP (p:K):Bool:=lowB p.ds p.dp p.sr p.sp
def keyP (p:K):Ke:=if dnP p then ⟨p.ds,p.sr,p.dp,p.sp,p.pr⟩ else ⟨p.sr,p.ds,p.sp,p.dp,p.pr⟩
theorem keyP_ok {p:K} (h:p.Ok):(keyP p).Ok:=by
 have:=h.pr;have:=h.sr;have:=h.ds;have:=h.sp;have:=h.dp
 unfold keyP;split <;> exact ⟨by assumption,by assumption,by assumption,by assumption,by assumption⟩
def dropS (s:St) (k:Ke):St:=match find k s.fs with
 | some _=>{ s with g:=s.g - 1,fs:=drop k s.fs }
 | none=>s
def delB (s:St) (k:Ke):Bool:=match find k s.fs with
 | some f=>Fl.overB f.c f.n f.s s.c
 | none=>false
def delS (s:St) (k:Ke):St:=if delB s k then dropS s k else s
def tickS (s:St) (n:Int):St:={ s with c:=Ga.later s.c n }
def folB (f:Fl) (p:K):Bool:=Fs.neB f.s (dnP p != f.dn) (p.pr:Int) (p.fl:Int) (p.kd:Int)
def folN (f:Fl) (p:K):Int:=Fs.neN f.s (dnP p != f.dn) (p.pr:Int) (p.fl:Int) (p.kd:Int)
def folF (T:Nat->Int) (c:Int) (f:Fl) (p:K):Fl :=
 if folB f p then { f with c:=Fl.clip (Fs.untN T (folN f p) c),n:=Fl.up f.n,s:=folN f p % 16 } else { f with c:=Fl.clip f.c,n:=Fl.up f.n,s:=f.s % 16 }
def folS (T:Nat->Int) (s:St) (f:Fl) (p:K):St:={ s with fs:=put (folF T s.c f p) s.fs }
def opeB (p:K):Bool:=Fs.opB (p.pr:Int) (p.fl:Int) (p.kd:Int)
def opeN (p:K):Int:=Fs.opN (p.pr:Int) (p.fl:Int) (p.kd:Int)
def opeV (N:Int) (s:St) (p:K):Int:=if accB s.rl (fst p s.rl)=false then 3 else if opeB p=false then 4 else if N<=s.g then 5 else 1
def opeF (T:Nat->Int) (c:Int) (p:K):Fl:={ k:=keyP p,c:=Fl.clip (Fs.untN T (opeN p) c),n:=Fl.up 0,s:=opeN p % 16,dn:=dnP p }
def opeS (N:Int) (T:Nat->Int) (s:St) (p:K):St:=if opeV N s p=1 then { s with g:=s.g+1,fs:=ins (opeF T s.c p) s.fs } else s
def actS (N:Int) (T:Nat->Int) (s:St) (p:K):St:=match find (keyP p) (delS s (keyP p)).fs with
 | some f=>folS T (delS s (keyP p)) f p
 | none=>opeS N T (delS s (keyP p)) p
def swapV (s:St) (rl:List R):Int × Int:=if fitE rl≠0 then (0,fitE rl) else if s.v=4095 then (0,2) else (s.v+1,0)
def swapS (s:St) (rl:List R):St:=if (swapV s rl).2=0 then { s with v:=s.v+1,rl:=rl } else s
theorem next_fin:∀ (s:Fin 16) (r:Bool) (f:Fin 256),TraM.nextB (s.val:Int) r f.val=true->1<=TraM.nextN (s.val:Int) r f.val/\TraM.nextN (s.val:Int) r f.val<=9:=by decide +kernel
theorem open_fin:∀ (f:Fin 256),TraM.openB f.val=true->1<=TraM.openN f.val/\TraM.openN f.val<=9:=by decide +kernel
theorem folN_in {f:Fl} {p:K} (hf:f.Ok) (hp:p.Ok) (h:folB f p=true):1<=folN f p/\folN f p<=9:=by
 unfold folB Fs.neB at h
 unfold folN Fs.neN
 have h0:=hf.fit.v0
 have h1:=hf.fit.v1
 have h2:=hp.fl
 split
 ·rename_i h6
  rw [if_pos h6] at h
  have e:f.s=((⟨f.s.toNat,by omega⟩:Fin 16).val:Int):=by simp;omega
  have h3:=next_fin ⟨f.s.toNat,by omega⟩ (dnP p != f.dn) ⟨p.fl,by omega⟩
  rw [← e] at h3
  exact h3 (by simpa using h)
 ·rename_i h6
  rw [if_neg h6] at h
  split
  ·rename_i h7
   rw [if_pos h7] at h
   unfold Fs.talkB at h
   have h8:f.s=8\/f.s=9:=by simpa using h
   unfold Fs.talkN
   rw [if_pos h8]
   split <;> omega
  ·rename_i h7
   rw [if_neg h7] at h;cases h
theorem opeN_in {p:K} (hp:p.Ok) (h:opeB p=true):1<=opeN p/\opeN p<=9:=by
 unfold opeB Fs.opB at h
 unfold opeN Fs.opN
 have h2:=hp.fl
 split
 ·rename_i h6
  rw [if_pos h6] at h
  have h3:=open_fin ⟨p.fl,by omega⟩
  simp only [Int.toNat_natCast] at h ⊢
  exact h3 h
 ·rename_i h6
  rw [if_neg h6] at h
  have h7:((p.pr:Int)=17\/(p.pr:Int)=1/\(p.kd:Int)=8):=by simpa using h
  rw [if_pos h7];omega
end Au
end Go.Proofs.YtcockldefmmhbaaGreatDoor
set_option linter.unusedVariables false
set_option linter.unusedSimpArgs false
set_option maxRecDepth 100000
namespace Go.Proofs.YtcockldefmmhbaaGreatDoor
open Go.ChangeShapes Go.WideShapes Go.ChangeAt Go.RowKit Go.Mtl Go.Lib
namespace Au
open AutM
open RulM (R)
open MatM (K fst accB idxI)
theorem Inv.at_least {N:Int} {s:St} (H:Inv N s) {k:Ke} {f:Fl} (h:find k s.fs=some f):s.g≠0:=by
 have h1:=(find_some h).1
 have h2:=H.cnt
 intro e
 rw [e] at h2
 have:s.fs=[]:=List.eq_nil_of_length_eq_zero (by omega)
 rw [this] at h1;cases h1
theorem Inv.drop {N:Int} {s:St} (H:Inv N s) (k:Ke):Inv N (dropS s k):=by
 unfold dropS
 cases h:find k s.fs with
 | none=>exact H
 | some f =>
  have h0:=H.at_least h
  have h1:=H.fit
  have h2:=H.oks.len_drop h
  have h3:=H.cnt
  have h4:=H.cap
  refine ⟨⟨h1.c0,h1.c1,?_,?_,h1.v0,h1.v1⟩,?_,?_,H.cap1,H.oks.drop k,H.rls,H.few,H.tl⟩
  ·show 0<=s.g - 1;omega
  ·show s.g - 1 < 4096;have:=h1.k1;omega
  ·show s.g - 1=((AutM.drop k s.fs).length:Int);omega
  ·show s.g - 1<=N;omega
theorem Inv.del {N:Int} {s:St} (H:Inv N s) (k:Ke):Inv N (delS s k):=by
 unfold delS
 split
 ·exact H.drop k
 ·exact H
theorem Inv.tick {N:Int} {s:St} (H:Inv N s) (n:Int):Inv N (tickS s n):=by
 have HL:=Ga.later_fit (n:=n) H.fit
 exact ⟨⟨HL.1,HL.2.1,H.fit.k0,H.fit.k1,H.fit.v0,H.fit.v1⟩,H.cnt,H.cap,H.cap1,H.oks,H.rls,H.few,H.tl⟩
theorem folF_ok {T:Nat->Int} {c:Int} {f:Fl} {p:K} (hf:f.Ok) (hp:p.Ok):(folF T c f p).Ok/\(folF T c f p).k=f.k:=by
 unfold folF
 have h1:=Fl.clip_fit f.c
 have h2:=Fl.up_fit hf.fit.k0 hf.fit.k1
 have h3:=Fl.clip_fit (Fs.untN T (folN f p) c)
 have h5:=hf.lo;have h6:=hf.hi
 split
 ·rename_i hb
  have h4:=folN_in hf hp hb
  exact ⟨⟨hf.k,⟨h3.1,h3.2,h2.1,h2.2,by show 0<=folN f p % 16;omega,by show folN f p % 16 < 16;omega⟩,by show 1<=folN f p % 16;omega,by show folN f p % 16<=9;omega⟩,rfl⟩
 ·exact ⟨⟨hf.k,⟨h1.1,h1.2,h2.1,h2.2,by show 0<=f.s % 16;omega,by show f.s % 16 < 16;omega⟩,by show 1<=f.s % 16;omega,by show f.s % 16<=9;omega⟩,rfl⟩
theorem opeF_ok {T:Nat->Int} {c:Int} {p:K} (hp:p.Ok) (hb:opeB p=true):(opeF T c p).Ok:=by
 unfold opeF
 have h3:=Fl.clip_fit (Fs.untN T (opeN p) c)
 have h2:=Fl.up_fit (k:=0) (by omega) (by omega)
 have h4:=opeN_in hp hb
 exact ⟨keyP_ok hp,⟨h3.1,h3.2,h2.1,h2.2,by show 0<=opeN p % 16;omega,by show opeN p % 16 < 16;omega⟩,by show 1<=opeN p % 16;omega,by show opeN p % 16<=9;omega⟩
theorem Inv.fol {N:Int} {T:Nat->Int} {s:St} (H:Inv N s) {f:Fl} {p:K} (hf:f ∈ s.fs) (hp:p.Ok):Inv N (folS T s f p) :=
 ⟨H.fit,by show s.g=((put (folF T s.c f p) s.fs).length:Int);rw [len_put];exact H.cnt,H.cap,H.cap1,H.oks.put (folF_ok (H.oks.ok f hf) hp).1,H.rls,H.few,H.tl⟩
theorem opeV_yes {N:Int} {s:St} {p:K} (h:opeV N s p=1):accB s.rl (fst p s.rl)=true/\opeB p=true/\¬ N<=s.g:=by
 unfold opeV at h
 split at h
 ·omega
 ·rename_i h1
  split at h
  ·omega
  ·rename_i h2
   split at h
   ·omega
   ·rename_i h3
    exact ⟨by simpa using h1,by simpa using h2,h3⟩
theorem Inv.ope {N:Int} {T:Nat->Int} {s:St} (H:Inv N s) {p:K} (hp:p.Ok) (hk:find (keyP p) s.fs=none):Inv N (opeS N T s p):=by
 unfold opeS
 split
 ·rename_i h
  obtain ⟨_,h2,h3⟩:=opeV_yes h
  have h1:=H.fit
  have h4:=H.cnt
  have h5:=H.cap1
  refine ⟨⟨h1.c0,h1.c1,?_,?_,h1.v0,h1.v1⟩,?_,?_,H.cap1,H.oks.ins (opeF_ok hp h2) hk,H.rls,H.few,H.tl⟩
  ·show 0<=s.g+1;have:=h1.k0;omega
  ·show s.g+1 < 4096;omega
  ·show s.g+1=((ins (opeF T s.c p) s.fs).length:Int);rw [len_ins];omega
  ·show s.g+1<=N;omega
 ·exact H
theorem Inv.act {N:Int} {T:Nat->Int} {s:St} (H:Inv N s) {p:K} (hp:p.Ok):Inv N (actS N T s p):=by
 have h1:=H.del (keyP p)
 unfold actS
 cases h:find (keyP p) (delS s (keyP p)).fs with
 | none=>exact h1.ope hp h
 | some f=>exact h1.fol (find_some h).1 hp
theorem Inv.swap {N:Int} {s:St} (H:Inv N s) {rl:List R} (ho:∀ r ∈ rl,r.Ok):Inv N (swapS s rl):=by
 unfold swapS
 split
 ·rename_i h
  have hw : ¬ fitE rl≠0/\¬ s.v=4095:=by
   unfold swapV at h
   split at h
   ·rename_i h2;exact absurd h h2
   ·rename_i h2
    split at h
    ·cases h
    ·rename_i h3;exact ⟨h2,h3⟩
  have h1:=H.fit
  exact ⟨⟨h1.c0,h1.c1,h1.k0,h1.k1,by show 0<=s.v+1;have:=h1.v0;omega,by show s.v+1 < 4096;have:=h1.v1;have:=hw.2;omega⟩,H.cnt,H.cap,H.cap1,H.oks,ho,fit_len (Decidable.not_not.1 hw.1),H.tl⟩
 ·exact H
section
variable {w:World} {O:Nat->Prop} {B M:Nat} {N:Int} {T:Nat->Int} {s:St}
def lookV (s:St) (k:Ke):Value:=match find k s.fs with
 | some f=>.tuple #[.agg (Fl.gtc f.s f.n f.c),.bool true]
 | none=>.tuple #[.agg (Fl.gtc 0 0 0),.bool false]
end
end Au
end Go.Proofs.YtcockldefmmhbaaGreatDoor
set_option linter.unusedVariables false
set_option linter.unusedSimpArgs false
set_option maxRecDepth 100000
namespace Go.Proofs.YtcockldefmmhbaaGreatDoor
open Go.ChangeShapes Go.WideShapes Go.ChangeAt Go.RowKit Go.Mtl Go.Lib
namespace Au
open AutM
open RulM (R)
open MatM (K fst accB idxI)
theorem of_key (p:K) (hp:p.Ok) (W:World):Calls Tryz.prog 65 #[.agg (Ma.pK p)] W fun e w'=>e = .returned (.tuple #[kyV (keyP p),.bool (dnP p)])/\Below W.heap.size W w':=by
 have hr:keyP p=if dnP p then ⟨p.ds,p.sr,p.dp,p.sp,p.pr⟩ else ⟨p.sr,p.ds,p.sp,p.dp,p.pr⟩:=rfl
 cases hd:dnP p with
 | true =>
  rw [hd,if_pos rfl] at hr
  rw [hr]
  exact Ky.of_any p.pr p.sr p.ds p.sp p.dp p.fl p.kd hp.sp hp.dp p.ds p.sr p.dp p.sp true hd (.inl ⟨rfl,rfl,rfl,rfl,rfl⟩) W
 | false =>
  rw [hd,if_neg (by simp)] at hr
  rw [hr]
  exact Ky.of_any p.pr p.sr p.ds p.sp p.dp p.fl p.kd hp.sp hp.dp p.sr p.ds p.sp p.dp false hd (.inr ⟨rfl,rfl,rfl,rfl,rfl⟩) W
end Au
end Go.Proofs.YtcockldefmmhbaaGreatDoor
set_option linter.unusedVariables false
set_option linter.unusedSimpArgs false
set_option maxRecDepth 100000
namespace Go.Proofs.YtcockldefmmhbaaGreatDoor
open Go.ChangeShapes Go.WideShapes Go.ChangeAt Go.RowKit Go.Mtl Go.Lib
namespace Au
open AutM
open RulM (R)
def tlN (t:Nat->Int) (j:Nat) (i:Nat):Int:=if i=j then t i+1 else t i
def countS (s:St) (v:Int):St:=if 1<=v/\v<=5/\s.tl v.toNat≠18446744073709551615 then { s with tl:=tlN s.tl v.toNat } else s
theorem Inv.count {N:Int} {s:St} (H:Inv N s) (v:Int):Inv N (countS s v):=by
 unfold countS
 split
 ·rename_i h
  refine ⟨H.fit,H.cnt,H.cap,H.cap1,H.oks,H.rls,H.few,fun i=>?_⟩
  show 0<=tlN s.tl v.toNat i/\tlN s.tl v.toNat i < 18446744073709551616
  have:=H.tl i
  have h3:=h.2.2
  unfold tlN
  split
  ·rename_i e;subst e;omega
  ·exact this
 ·exact H
section
variable {w:World} {O:Nat->Prop} {B M:Nat} {N:Int} {T:Nat->Int} {s:St}
end
end Au
end Go.Proofs.YtcockldefmmhbaaGreatDoor
set_option linter.unusedVariables false
set_option linter.unusedSimpArgs false
namespace Go.Proofs.YtcockldefmmhbaaGreatDoor
open Go.ChangeShapes Go.WideShapes Go.ChangeAt Go.RowKit Go.Mtl Go.Lib
namespace Au
open AutM
open RulM (R)
open MatM (K fst accB idxI)
structure Dk where
 kd:Nat
 n:Int
 p:K
 k:Ke
 l:List R
 va:Value
structure Dk.Ok (x:Dk):Prop where
 kd:x.kd < 256
 n : -9223372036854775808<=x.n/\x.n<=9223372036854775807
 p:x.p.Ok
 k:x.k.Ok
 l:∀ r ∈ x.l,r.Ok
abbrev doC (x:Dk):Array Value :=
 #[.int .u8 (x.kd:Int),.int .i64 x.n,.int .u8 (x.p.pr:Int),.int .u32 (x.p.sr:Int),.int .u32 (x.p.ds:Int),.int .u16 (x.p.sp:Int),.int .u16 (x.p.dp:Int),.int .u8 (x.p.fl:Int),.int .u8 (x.p.kd:Int),
  .int .u32 (x.k.a:Int),.int .u32 (x.k.b:Int),.int .u16 (x.k.p:Int),.int .u16 (x.k.q:Int),.int .u8 (x.k.r:Int),x.va]
def stepS (N:Int) (T:Nat->Int) (s:St) (x:Dk):St :=
 if x.kd % 8=0 then tickS s x.n else if x.kd % 8=1 then swapS s (few x.l) else if x.kd % 8=2 then delS s x.k else if x.kd % 8=3 then dropS s x.k else actS N T s x.p
def runS (N:Int) (T:Nat->Int) (s:St) (xs:List Dk):St:=xs.foldl (stepS N T) s
theorem Inv.step {N:Int} {T:Nat->Int} {s:St} (H:Inv N s) {x:Dk} (hx:x.Ok):Inv N (stepS N T s x):=by
 unfold stepS
 split
 ·exact H.tick x.n
 ·split
  ·exact H.swap (few_ok hx.l)
  ·split
   ·exact H.del x.k
   ·split
    ·exact H.drop x.k
    ·exact H.act hx.p
theorem Inv.run {N:Int} {T:Nat->Int} {s:St} (H:Inv N s) {xs:List Dk} (hx:∀ x ∈ xs,x.Ok):Inv N (runS N T s xs):=by
 unfold runS
 induction xs generalizing s with
 | nil=>exact H
 | cons x xs ih=>exact ih (H.step (hx x List.mem_cons_self)) fun y hy=>hx y (List.mem_cons_of_mem _ hy)
end Au
end Go.Proofs.YtcockldefmmhbaaGreatDoor
set_option linter.unusedVariables false
set_option linter.unusedSimpArgs false
set_option maxRecDepth 100000
namespace Go.Proofs.YtcockldefmmhbaaGreatDoor
open Go.ChangeShapes Go.WideShapes Go.ChangeAt Go.RowKit Go.Mtl Go.Lib
namespace Au
open AutM
open RulM (R)
section
variable {w:World} {O:Nat->Prop} {B M:Nat} {N:Int} {T:Nat->Int} {s:St}
end
end Au
end Go.Proofs.YtcockldefmmhbaaGreatDoor
set_option linter.unusedVariables false
set_option linter.unusedSimpArgs false
set_option maxRecDepth 100000
namespace Go.Proofs.YtcockldefmmhbaaGreatDoor
open Go.ChangeShapes Go.WideShapes Go.ChangeAt Go.RowKit Go.Mtl Go.Lib
namespace Au
open AutM
open RulM (R)
open KeyM (isPow)
theorem count_ones (x:Int) (w:World):Calls Tryz.prog 59 #[.int .u64 x] w fun e w'=>e = .returned (.int .i64 (ones x))/\w=w':=by
 have HO:=Lib.hid (fun W=>ones_any x W)
 generalize ones x=y at HO
 go_enter Tryz.func59,Tryz.ntmps59
 go_wp2_with (go_at_call 92;refine (HO.out _).mono ?_;rintro e w' ⟨rfl,rfl⟩)
 go_ret
 exact ⟨rfl,rfl⟩
abbrev cfc (z N:Int) (T:Nat->Int):Array Value:=#[.int .i64 z,.int .i64 N,.int .i64 (T 0),.int .i64 (T 1),.int .i64 (T 2),.int .i64 (T 3),.int .i64 (T 4),.int .i64 (T 5),.int .i64 (T 6),.int .i64 (T 7),.int .i64 (T 8),.int .i64 (T 9),.int .i64 (T 10),.int .i64 (T 11),.int .i64 (T 12),.int .i64 (T 13),.int .i64 (T 14),.int .i64 (T 15)]
def chkB (z N:Int):Bool:=isPow z && (decide (1<=N) && decide (N<=4095))
def chkE (z N:Int) (rs:List R):Int:=if chkB z N then fitE rs else 1
theorem pow_is {z:Int} (h1:1<=z) (h2:z<=4096):(ones z == 1)=isPow z:=by
 have e:z=((⟨z.toNat,by omega⟩:Fin 4097).val:Int):=by simp;omega
 have h:=ones_pow ⟨z.toNat,by omega⟩
 rwa [← e] at h
section
variable {w:World}
set_option maxHeartbeats 1000000 in
theorem check_p (z N:Int) (T:Nat->Int) (hz : -9223372036854775808<=z/\z<=9223372036854775807) (he:Env w) (A:Option Addr) (n c:Nat) (rs:List R) (hn:rs.length=n) (hr:Rds w w.heap.size (.slice A n c) rs) (ho:∀ r ∈ rs,r.Ok) :
  Calls Tryz.prog 31 #[.agg (cfc z N T),.slice A n c] w fun e w'=>e = .returned (.int .i64 (chkE z N rs))/\Below w.heap.size w w':=by
 have HB:=Lib.hid (below_box w (.cells (cfc z N T) 24))
 have HC:Hid (∀ W,Below w.heap.size w W->Calls Tryz.prog 60 #[.slice A n c] W fun e w'=>e = .returned (.int .i64 (fitE rs))/\Below W.heap.size W w'):=fun W h =>
  check_any A n c rs W (he.below h) hn (hr.below h) ho
 have HX:=Lib.hid (Blk.box w (cfc z N T) 24)
 have c0:=HX.out.cell 0 _ rfl
 have c1:=HX.out.cell 1 _ rfl
 obtain ⟨V,hV⟩:∃ V,V=chkE z N rs:=⟨_,rfl⟩
 rw [← hV]
 have HV:=Lib.hid hV
 clear he hn hr ho hV
 by_cases h1:1<=z
 ·by_cases h2:z<=4096
  ·have HP:=Lib.hid (pow_is h1 h2)
   have HO:=Lib.hid (fun W=>count_ones z W)
   have hw:IntKind.u64.wrap z=z:=by simp [IntKind.wrap,IntKind.bits,IntKind.signed];omega
   generalize ones z=oz at HP HO
   cases hp:isPow z with
   | false =>
    have hv:V=1:=by rw [HV.out];unfold chkE chkB;rw [if_neg (by rw [hp];simp)]
    have hq:(oz == 1)=false:=HP.out.trans hp
    clear hp HV
    go_enter Tryz.func31,Tryz.ntmps31
    go_wp2_with fail
    go_at_call 59
    refine (HO.out _).mono ?_
    rintro e w1 ⟨rfl,rfl⟩
    go_wp2_with fail
    go_ret
    exact ⟨by rw [hv];rfl,HB.out⟩
   | true =>
    have hq:(oz == 1)=true:=HP.out.trans hp
    by_cases n1:1<=N
    ·by_cases n2:N<=4095
     ·have hv:V=fitE rs:=by rw [HV.out];unfold chkE chkB;rw [if_pos (by rw [hp,decide_eq_true n1,decide_eq_true n2];rfl)]
      have d1:decide (N < 1)=false:=decide_eq_false (by omega)
      have d2:decide (4095 < N)=false:=decide_eq_false (by omega)
      clear hp HV n1 n2
      generalize fitE rs=fe at HC hv
      subst hv
      go_enter Tryz.func31,Tryz.ntmps31
      go_wp2_with fail
      go_at_call 59
      refine (HO.out _).mono ?_
      rintro e w1 ⟨rfl,rfl⟩
      go_wp2_with fail
      go_at_call 60
      refine (HC.out _ HB.out).mono ?_
      rintro e w2 ⟨rfl,hb⟩
      have HB2:=Lib.hid (below_then HB.out hb)
      clear hb c0 c1
      go_wp2_with fail
      go_ret
      exact ⟨rfl,HB2.out⟩
     ·have hv:V=1:=by rw [HV.out];unfold chkE chkB;rw [if_neg (by rw [decide_eq_false n2];simp)]
      have d1:decide (N < 1)=false:=decide_eq_false (by omega)
      have d2:decide (4095 < N)=true:=decide_eq_true (by omega)
      clear hp HV n1 n2
      go_enter Tryz.func31,Tryz.ntmps31
      go_wp2_with fail
      go_at_call 59
      refine (HO.out _).mono ?_
      rintro e w1 ⟨rfl,rfl⟩
      go_wp2_with fail
      go_ret
      exact ⟨by rw [hv];rfl,HB.out⟩
    ·have hv:V=1:=by rw [HV.out];unfold chkE chkB;rw [if_neg (by rw [decide_eq_false n1];simp)]
     have d1:decide (N < 1)=true:=decide_eq_true (by omega)
     clear hp HV n1
     go_enter Tryz.func31,Tryz.ntmps31
     go_wp2_with fail
     go_at_call 59
     refine (HO.out _).mono ?_
     rintro e w1 ⟨rfl,rfl⟩
     go_wp2_with fail
     go_ret
     exact ⟨by rw [hv];rfl,HB.out⟩
  ·have hv:V=1:=by rw [HV.out];unfold chkE chkB;rw [if_neg (by rw [KeyM.isPow_out (by omega)];simp)]
   have d2:decide (z<=4096)=false:=decide_eq_false h2
   clear HV h2
   go_enter Tryz.func31,Tryz.ntmps31
   go_wp2_with fail
   go_ret
   exact ⟨by rw [hv];rfl,HB.out⟩
 ·have hv:V=1:=by rw [HV.out];unfold chkE chkB;rw [if_neg (by rw [KeyM.isPow_out (by omega)];simp)]
  have d1:decide (1<=z)=false:=decide_eq_false h1
  clear HV h1
  go_enter Tryz.func31,Tryz.ntmps31
  go_wp2_with fail
  go_ret
  exact ⟨by rw [hv];rfl,HB.out⟩
end
end Au
end Go.Proofs.YtcockldefmmhbaaGreatDoor
set_option linter.unusedVariables false
set_option linter.unusedSimpArgs false
set_option maxRecDepth 100000
namespace Go.Proofs.YtcockldefmmhbaaGreatDoor
open Go.ChangeShapes Go.WideShapes Go.ChangeAt Go.RowKit Go.Mtl Go.Lib
namespace Au
open AutM
open RulM (R)
def newS (rs:List R):St:={ c:=0,g:=0,v:=0,rl:=rs,fs:=[],tl:=fun _=>0 }
theorem cfg_size (z N:Int) (T:Nat->Int):(Tryz.prog.info? 24).map (·.size)=some (cfc z N T).size:=(by kernel_rfl:(Tryz.prog.info? 24).map (·.size)=some 18)
end Au
end Go.Proofs.YtcockldefmmhbaaGreatDoor
set_option linter.unusedVariables false
set_option linter.unusedSimpArgs false
set_option maxRecDepth 100000
namespace Go.Proofs.YtcockldefmmhbaaGreatDoor
open Go.ChangeShapes Go.WideShapes Go.ChangeAt Go.RowKit Go.Mtl Go.Lib
namespace Au
open AutM
open RulM (R)
open MatM (K)
def Das (w:World) (B:Nat) (v:Value) (xs:List Dk):Prop :=
 ∃ A c,v = .slice A xs.length c/\xs.length<=c/\c<=9223372036854775807/\(0 < xs.length->∃ b off,A=some ⟨b,off,none⟩/\b < B/\∀ (i:Nat) (x:Dk),xs[i]? = some x->∀ (j:Nat) (u:Value),(doC x)[j]? = some u->w.cell? ⟨b,off+(i * 15+j),none⟩=some u) ∧
  ∀ x ∈ xs,Rds w B x.va x.l
theorem Das.keep {w w':World} {B:Nat} {v:Value} {xs:List Dk} (h:Das w B v xs) (hk:∀ p:Addr,p.block < B->w'.cell? p=w.cell? p):Das w' B v xs:=by
 obtain ⟨A,c,e,h1,h2,h3,h4⟩:=h
 refine ⟨A,c,e,h1,h2,fun hn=>?_,fun x hx=>(h4 x hx).keep hk⟩
 obtain ⟨b,off,e2,hb,hc⟩:=h3 hn
 exact ⟨b,off,e2,hb,fun i x hx j u hu=>(hk ⟨b,_,none⟩ hb).trans (hc i x hx j u hu)⟩
theorem Das.below {w w':World} {B:Nat} {v:Value} {xs:List Dk} (h:Das w B v xs) (hb:Below B w w'):Das w' B v xs:=h.keep fun _ hp=>hb.cell hp
theorem Das.len {w:World} {B:Nat} {v:Value} {xs:List Dk} (h:Das w B v xs):∃ A c,v = .slice A xs.length c/\xs.length<=c/\c<=9223372036854775807:=by
 obtain ⟨A,c,e,h1,h2,_⟩:=h
 exact ⟨A,c,e,h1,h2⟩
theorem Das.at_ {w:World} {B:Nat} {v:Value} {xs:List Dk} (h:Das w B v xs) {len:Nat} (hl:xs.length=len) {i:Nat} {x:Dk} (hx:xs[i]? = some x) :
  ∃ b off c,v = .slice (some ⟨b,off,none⟩) len c/\len<=c/\c<=9223372036854775807/\w.rangeAt b (off+i * 15) (doC x).toList/\Rds w B x.va x.l:=by
 subst hl
 obtain ⟨A,c,rfl,h1,h2,h3,h4⟩:=h
 obtain ⟨b,off,rfl,hb,hc⟩:=h3 (by have:=(List.getElem?_eq_some_iff.1 hx).1;omega)
 refine ⟨b,off,c,rfl,h1,h2,fun j u hu=>?_,h4 x (List.mem_of_getElem? hx)⟩
 rw [Nat.add_assoc]
 exact hc i x hx j u (by simpa using hu)
section
variable {w W w':World} {O O':Nat->Prop} {B M:Nat} {N:Int} {T:Nat->Int} {s s':St}
end
end Au
end Go.Proofs.YtcockldefmmhbaaGreatDoor
set_option linter.unusedVariables false
set_option linter.unusedSimpArgs false
set_option maxRecDepth 100000
namespace Go.Proofs.YtcockldefmmhbaaGreatDoor
open Go.ChangeShapes Go.WideShapes Go.ChangeAt Go.RowKit Go.Mtl Go.Lib Go.Deep
namespace Au
open AutM
open RulM (R)
open MatM (K)
section
variable {H:Type} {enc:TypeId × Value->H} {P:Program} {w:World} {base:Nat} {spare:Nat->Bool} {held:Bool}
end
end Au
end Go.Proofs.YtcockldefmmhbaaGreatDoor
