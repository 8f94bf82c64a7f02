import Derived.Test.YtcockldefmmhbaaGreatDoorJ37
import Derived.Test.YtcockldefmmhbaaGreatDoorJ12
import Derived.Deep.QuietTactic
import Derived.Laws.StructEq
import Derived.KernelRfl
set_option linter.unusedVariables false
set_option linter.unusedSimpArgs false
set_option maxRecDepth 100000
namespace Go.Proofs.YtcockldefmmhbaaGreatDoor
open Go.ChangeShapes Go.WideShapes Go.ChangeAt Go.RowKit Go.Mtl Go.Lib
namespace Me
open MemM
abbrev Acs (w:World) (B:Nat) (v:Value) (ls:List Ac):Prop:=Rd w B 3 ls.length v (avs ls)
theorem avs_one (ls:List Ac):∀ u ∈ avs ls,u.oneCell'=true:=by
 intro u hu
 unfold avs at hu
 obtain ⟨a,_,h⟩:=List.mem_flatMap.1 hu
 simp at h
 rcases h with rfl | rfl | rfl <;> rfl
def Cloned (w:World) (ls:List Ac) (e:Ending) (w':World):Prop:=∃ v,e = .returned v/\Acs w' w'.heap.size v ls/\(∀ g,v.ownBlock=some g->w.heap.size<=g)/\Below w.heap.size w w'
theorem clone_any (v:Value) (ls:List Ac) (w:World) (h:Acs w w.heap.size v ls) (hl:ls.length<=1000000000000) :
  Calls Tryz.prog 87 #[v] w (Cloned w ls):=by
 obtain ⟨A,c,rfl,h1,h2⟩:=h.len
 have heq:=slice_nil 54 92 Tryz.underlying54 A ls.length c w
 rcases A with _ | ad
 ·have h0:ls=[]:=by
   rcases Nat.eq_zero_or_pos ls.length with h0 | h0
   ·exact List.eq_nil_of_length_eq_zero h0
   ·obtain ⟨b,off,c2,e,_⟩:=h.at_ h0
    cases e
  subst h0
  simp only [Option.isNone_none,List.length_nil] at heq ⊢
  clear h h1 h2 hl
  go_enter Tryz.func87,Tryz.ntmps87
  go_wp2_with fail
  go_ret
  exact ⟨_,rfl,Rd.nil _ _ _,fun g h=>by simp [Value.ownBlock] at h,Below.refl _ _⟩
 ·have HR:=Lib.hid h
  simp only [Option.isNone_some] at heq
  clear h
  go_enter Tryz.func87,Tryz.ntmps87
  go_wp2_with (at_builtin;(refine wpList_clone rfl (.tmp 5) (.tmp 6) 54 92 rfl Tryz.underlying54 (.agg #[.int .i64 0,.int .i64 0,.int .i64 0]) 3 24 info_acc rfl (by omega) (by omega) rfl ls.length c ad (avs ls) rfl HR.out (avs_one ls) hl ?_;intro A' c' w' H1 H2))
  go_ret
  exact ⟨_,rfl,Rd.of_own H1.out,fun g hg=>(H1.out.lt g hg).1,H2.out⟩
theorem log_any {w:World} {O:Nat->Prop} {B:Nat} {s:Ms} (H:MAt w O B s) (hl:s.ls.length<=1000000000000) :
  Calls Tryz.prog 49 #[ptr B] w (Cloned w s.ls):=by
 obtain ⟨⟨vw,vh,vl,H⟩,hok⟩:=H
 have c2:=H.blk.cell 2 _ rfl
 have HC:=Lib.hid (clone_any vl s.ls w (Rd.of_own H.lr) hl)
 obtain ⟨Al,cl,rfl,-,-⟩:=H.len2
 clear H hok hl
 go_enter Tryz.func49,Tryz.ntmps49
 go_wp2_with fail
 go_at_call 87
 refine HC.out.mono ?_
 rintro e w1 ⟨v,rfl,h1,h2,h3⟩
 obtain ⟨A,c,rfl,-,-⟩:=h1.len
 have H1:=Lib.hid h1
 have H2:=Lib.hid h2
 have H3:=Lib.hid h3
 clear h1 h2 h3
 go_wp2_with fail
 go_ret
 exact ⟨_,rfl,H1.out,H2.out,H3.out⟩
theorem ac_fields:Tryz.prog.underlying 92=some (.struct (Tryz.prog.fieldsOf 92)):=by kernel_rfl
theorem ac_stood:Tryz.prog.stoodInHeld 92=false:=by kernel_rfl
theorem ac_lay:(Tryz.prog.fieldsOf 92).toList.map (fun f=>(f.type,f.offset))=[(3,0),(3,1),(3,2)]:=by kernel_rfl
theorem ac_names:(Tryz.prog.fieldsOf 92).toList.all (fun f=>f.name != "_")=true:=by kernel_rfl
theorem ac_same (a b c:Int) (w:World):(Op.equalIn 10000 92 (.agg #[.int .i64 a,.int .i64 b,.int .i64 c]) (.agg #[.int .i64 a,.int .i64 b,.int .i64 c])).run Tryz.prog w = .ok true w:=by
 rw [show (10000:Nat)=9999+1 from rfl,run_equalIn_struct w 9999 _ _ _ ac_fields ac_stood]
 have hl:=ac_lay
 have hn:=ac_names
 generalize (Tryz.prog.fieldsOf 92).toList=l at hl hn ⊢
 rcases l with _ | ⟨f1,_ | ⟨f2,_ | ⟨f3,_ | ⟨f4,l⟩⟩⟩⟩ <;> simp at hl hn
 obtain ⟨⟨t1,o1⟩,⟨t2,o2⟩,t3,o3⟩:=hl
 obtain ⟨n1,n2,n3⟩:=hn
 have c1:(part 3 #[.int .i64 a,.int .i64 b,.int .i64 c] 0).run Tryz.prog w = .ok (.int .i64 a) w:=by simp [go_sem]
 have c2:(part 3 #[.int .i64 a,.int .i64 b,.int .i64 c] 1).run Tryz.prog w = .ok (.int .i64 b) w:=by simp [go_sem]
 have c3:(part 3 #[.int .i64 a,.int .i64 b,.int .i64 c] 2).run Tryz.prog w = .ok (.int .i64 c) w:=by simp [go_sem]
 have q:∀ x:Int,(Op.equalIn 9999 3 (.int .i64 x) (.int .i64 x)).run Tryz.prog w = .ok (x == x) w:=fun x=>run_equalIn_int w 9998 _ .i64 .i64 x x (by kernel_rfl)
 simp only [Op.eqFields,ne_eq,n1,n2,n3,not_false_eq_true,if_true,t1,t2,t3,o1,o2,o3,Sem.run_bind,c1,c2,c3,Result.andThen_ok,q,Sem.run_ite,Sem.run_pure,beq_self_eq_true]
 rfl
set_option maxHeartbeats 1000000 in
theorem same_true (a b:Value) (ls:List Ac) (w:World) (ha:Acs w w.heap.size a ls) (hb:Acs w w.heap.size b ls) :
  Calls Tryz.prog 35 #[a,b] w fun e w'=>e = .returned (.bool true)/\∃ q,w'=w.drewN q:=by
 obtain ⟨A,ca,rfl,hca,hca2⟩:=ha.len
 obtain ⟨C,cb,rfl,hcb,hcb2⟩:=hb.len
 have HA:=Lib.hid ha
 have HB:=Lib.hid hb
 clear ha hb
 obtain ⟨L,hL⟩:∃ L,ls.length=L:=⟨_,rfl⟩
 have HL:=Lib.hid hL
 unfold Acs at HA HB
 rw [hL] at HA HB hca hcb ⊢
 clear hL
 go_enter Tryz.func35,Tryz.ntmps35
 go_wp2_with fail
 go_loopw [5] (fun i wr=>∃ k q:Nat,k<=L/\i = .int .i64 (k:Int)/\wr=w.drewN q) (fun i _=>L - (RowKit.intOf i).toNat)
 case atStart=>exact ⟨0,0,by omega,rfl,rfl⟩
 case round =>
  obtain ⟨k,q,hk,rfl,rfl⟩:=hrel
  by_cases hlt:k < L
  ·obtain ⟨r,hx⟩:∃ r,ls[k]? = some r:=⟨_,List.getElem?_eq_getElem (by rw [HL.out];exact hlt)⟩
   obtain ⟨x0,x1,x2⟩:=avs_at ls k r hx
   obtain ⟨g1,of1,cap1,hv1,-,-,-,hc1⟩:=HA.out.at_ (by omega)
   obtain ⟨g2,of2,cap2,hv2,-,-,-,hc2⟩:=HB.out.at_ (by omega)
   cases hv1
   cases hv2
   have a0:=hc1 _ _ x0
   have a1:=hc1 _ _ x1
   have a2:=hc1 _ _ x2
   have b0:=hc2 _ _ x0
   have b1:=hc2 _ _ x1
   have b2:=hc2 _ _ x2
   rw [← Nat.add_assoc] at a1 a2 b1 b2
   have hEQ:=fun W=>ac_same r.t r.k r.p W
   clear hc1 hc2 hx x0 x1 x2
   go_wp2_with fail
   go_quiet (fail)
   go_wp2_with fail
   go_roundw
   case rel=>exact ⟨k+1,_,by omega,by go_num,rfl⟩
   case measure=>simp [RowKit.intOf];omega
  ·obtain rfl:k=L:=by omega
   go_wp2_with fail
   go_ret
   exact ⟨rfl,q,rfl⟩
end Me
end Go.Proofs.YtcockldefmmhbaaGreatDoor
