/- Several texts of this proof in one file, each in its own namespace. -/
import Derived.Test.YtcockldefmmhbaaGreatDoorJ30
import Derived.Test.YtcockldefmmhbaaGreatDoorRows
set_option linter.unusedVariables false
set_option linter.unusedSimpArgs false
set_option maxRecDepth 100000
namespace Go.Proofs.YtcockldefmmhbaaGreatDoor
open Go.ChangeShapes Go.WideShapes Go.ChangeAt Go.RowKit Go.Mtl Go.Lib
namespace Me
open MemM
abbrev T1:Mty:=⟨128,56,3,92,.i64⟩
abbrev ptr (B:Nat):Value:=.pointer (some ⟨B,0,none⟩)
theorem info_acc:(Tryz.prog.info? 92).map (fun i=>(i.zero,i.size,i.bytes))=some (some (.agg #[.int .i64 0,.int .i64 0,.int .i64 0]),3,24):=by kernel_rfl
theorem info_word:(Tryz.prog.info? 56).map (fun i=>(i.zero,i.size,i.bytes))=some (some (.int .u64 0),1,8):=by kernel_rfl
section
variable {w:World} {O:Nat->Prop} {B:Nat} {vw vh vl:Value} {ws hs:List Int} {ls:List Ac}
set_option maxHeartbeats 1000000 in
theorem record_any (H:Mm T1 w O B vw vh vl ws hs ls) (t k n sp p:Int) (hn:0<=n/\n<=1099511627776) (hsp:0<=sp/\sp<=2) (hp:p=3 * n+sp) (hl:ls.length<=1000000000000) :
  Calls Tryz.prog 82 #[ptr B,.int .i64 t,.int .i64 k,.int .i64 n,.int .i64 sp] w fun e w'=>∃ O' v,e = .returned (.tuple #[])/\Mm T1 w' O' B vw vh v ws hs (ls ++ [⟨t,k,p⟩])/\Only O w w'/\∀ j,O' j->O j\/w.heap.size<=j:=by
 subst hp
 obtain ⟨n0,n1⟩:=hn
 obtain ⟨s0,s1⟩:=hsp
 obtain ⟨Al,cl,rfl,hc1,hc2⟩:=H.len2
 have c2:=H.blk.cell 2 _ rfl
 have HH:=Lib.hid H
 clear H
 go_enter Tryz.func82,Tryz.ntmps82
 go_wp2_with (at_builtin;refine wpList_push (ls.length+1) rfl _ _ 54 92 rfl Tryz.underlying54 (.agg #[.int .i64 0,.int .i64 0,.int .i64 0]) 3 24 info_acc rfl (by omega) (by omega) _ _ _ rfl HH.out.lr [.int .i64 t,.int .i64 k,.int .i64 (3 * n+sp)] rfl (by simp [Value.oneCell']) rfl rfl hl ?_;intro A' c' w1 h1 h2 h3;have HB1:=HH.out.grownL h2.out;clear c2;have c2:=HB1.cell 2 _ rfl;have f2:=HB1.frozen 2;clear HB1)
 go_end0
 have HP:=HH.out.push (a:=⟨t,k,3 * n+sp⟩) h1.out h2.out h3.out
 exact ⟨_,_,rfl,HP.1,HP.2,fun j hj=>hj.imp id (fun h=>h.1)⟩
theorem hasWord_any (H:Mm T1 w O B vw vh vl ws hs ls) (i:Int) {b:Bool} (hb:has ws.length i=b) :
  Calls Tryz.prog 86 #[ptr B,.int .i64 i] w fun e w'=>e = .returned (.bool b)/\w=w':=by
 obtain ⟨A,c,rfl,hc1,hc2⟩:=H.len0
 have c0:=H.blk.cell 0 _ rfl
 clear H
 cases b with
 | true =>
  obtain ⟨j,rfl,hj⟩:=has_yes hb
  clear hb
  go_enter Tryz.func86,Tryz.ntmps86
  go_wp2_with fail
  go_ret
  exact ⟨rfl,rfl⟩
 | false =>
  have h:=has_no hb
  clear hb
  by_cases h0:i < 0
  ·have d0:decide (i>=0)=false:=by simpa using h0
   clear h
   go_enter Tryz.func86,Tryz.ntmps86
   go_wp2_with fail
   go_ret
   exact ⟨rfl,rfl⟩
  ·obtain ⟨j,rfl⟩:∃ j:Nat,i=(j:Int):=⟨i.toNat,by omega⟩
   have hj : ¬ j < ws.length:=by omega
   clear h h0
   go_enter Tryz.func86,Tryz.ntmps86
   go_wp2_with fail
   go_ret
   exact ⟨rfl,rfl⟩
theorem hasLock_any (H:Mm T1 w O B vw vh vl ws hs ls) (i:Int) {b:Bool} (hb:has hs.length i=b) :
  Calls Tryz.prog 81 #[ptr B,.int .i64 i] w fun e w'=>e = .returned (.bool b)/\w=w':=by
 obtain ⟨A,c,rfl,hc1,hc2⟩:=H.len1
 have c0:=H.blk.cell 1 _ rfl
 clear H
 cases b with
 | true =>
  obtain ⟨j,rfl,hj⟩:=has_yes hb
  clear hb
  go_enter Tryz.func81,Tryz.ntmps81
  go_wp2_with fail
  go_ret
  exact ⟨rfl,rfl⟩
 | false =>
  have h:=has_no hb
  clear hb
  by_cases h0:i < 0
  ·have d0:decide (i>=0)=false:=by simpa using h0
   clear h
   go_enter Tryz.func81,Tryz.ntmps81
   go_wp2_with fail
   go_ret
   exact ⟨rfl,rfl⟩
  ·obtain ⟨j,rfl⟩:∃ j:Nat,i=(j:Int):=⟨i.toNat,by omega⟩
   have hj : ¬ j < hs.length:=by omega
   clear h h0
   go_enter Tryz.func81,Tryz.ntmps81
   go_wp2_with fail
   go_ret
   exact ⟨rfl,rfl⟩
end
end Me
end Go.Proofs.YtcockldefmmhbaaGreatDoor
set_option linter.unusedVariables false
set_option linter.unusedSimpArgs false
set_option maxRecDepth 100000
namespace Go.Proofs.YtcockldefmmhbaaGreatDoor
open Go.ChangeShapes Go.WideShapes Go.ChangeAt Go.RowKit Go.Mtl Go.Lib
namespace Me
open MemM
def MAt (w:World) (O:Nat->Prop) (B:Nat) (s:Ms):Prop:=(∃ vw vh vl,Mm T1 w O B vw vh vl s.ws s.hs s.ls)/\Ok s
section
variable {w w':World} {O O':Nat->Prop} {B:Nat} {s:Ms}
theorem MAt.far (H:MAt w O B s) (h:Only O' w w') (hd:∀ j,O j->¬ O' j):MAt w' O B s:=by
 obtain ⟨⟨vw,vh,vl,h1⟩,h2⟩:=H
 exact ⟨⟨vw,vh,vl,h1.far h hd⟩,h2⟩
theorem MAt.next (H:MAt w O B s) (hb:Below w.heap.size w w'):MAt w' O B s:=H.far (O':=fun _=>False) (Only.of_below hb) (fun _ _ e=>e)
theorem MAt.lt (H:MAt w O B s):∀ j,O j->j < w.heap.size:=by
 obtain ⟨⟨vw,vh,vl,h1⟩,h2⟩:=H
 exact h1.lt
theorem look_any (H:MAt w O B s) (i:Int):Calls Tryz.prog 47 #[ptr B,.int .i64 i] w fun e w'=>e = .returned (.int .u64 (lookV s i))/\w=w':=by
 obtain ⟨⟨vw,vh,vl,H⟩,hok⟩:=H
 cases hb:has s.ws.length i with
 | false =>
  have e:lookV s i=0:=by unfold lookV;rw [hb];rfl
  rw [e]
  have HC:=Lib.hid (hasWord_any H i hb)
  clear H e hb hok
  go_enter Tryz.func47,Tryz.ntmps47
  go_wp2_with (go_at_call 86;refine HC.out.mono ?_;rintro e w' ⟨rfl,rfl⟩)
  go_ret
  exact ⟨rfl,rfl⟩
 | true =>
  have HC:=Lib.hid (hasWord_any H i hb)
  have e:lookV s i=at_ s.ws i:=by unfold lookV;rw [hb];rfl
  rw [e]
  obtain ⟨j,rfl,hj⟩:=has_yes hb
  rw [at_nat]
  obtain ⟨g,c,rfl,h1,h2,-,c1,-⟩:=H.word hj
  have c0:=H.blk.cell 0 _ rfl
  generalize s.ws.getD j 0=x at *
  clear H e hb hok
  go_enter Tryz.func47,Tryz.ntmps47
  go_wp2_with (go_at_call 86;refine HC.out.mono ?_;rintro e w' ⟨rfl,rfl⟩)
  go_ret
  exact ⟨rfl,rfl⟩
theorem holder_any (H:MAt w O B s) (i:Int):Calls Tryz.prog 48 #[ptr B,.int .i64 i] w fun e w'=>e = .returned (.int .i64 (holdV s i))/\w=w':=by
 obtain ⟨⟨vw,vh,vl,H⟩,hok⟩:=H
 cases hb:has s.hs.length i with
 | false =>
  have e:holdV s i=-1:=by unfold holdV;rw [hb];rfl
  rw [e]
  have HC:=Lib.hid (hasLock_any H i hb)
  clear H e hb hok
  go_enter Tryz.func48,Tryz.ntmps48
  go_wp2_with (go_at_call 81;refine HC.out.mono ?_;rintro e w' ⟨rfl,rfl⟩)
  go_ret
  exact ⟨rfl,rfl⟩
 | true =>
  have HC:=Lib.hid (hasLock_any H i hb)
  have e:holdV s i=at_ s.hs i:=by unfold holdV;rw [hb];rfl
  rw [e]
  obtain ⟨j,rfl,hj⟩:=has_yes hb
  rw [at_nat]
  obtain ⟨g,c,rfl,h1,h2,-,c1,-⟩:=H.hold hj
  have c0:=H.blk.cell 1 _ rfl
  generalize s.hs.getD j 0=x at *
  clear H e hb hok
  go_enter Tryz.func48,Tryz.ntmps48
  go_wp2_with (go_at_call 81;refine HC.out.mono ?_;rintro e w' ⟨rfl,rfl⟩)
  go_ret
  exact ⟨rfl,rfl⟩
def Does (w:World) (O:Nat->Prop) (B:Nat) (v:Value) (s':Ms) (e:Ending) (w':World):Prop :=
 ∃ O',e = .returned v/\MAt w' O' B s'/\Only O w w'/\∀ j,O' j->O j\/w.heap.size<=j
set_option maxHeartbeats 1000000 in
theorem load_any (H:MAt w O B s) (t i:Int) (hl:s.ls.length<=1000000000000):Calls Tryz.prog 109 #[ptr B,.int .i64 t,.int .i64 i] w (Does w O B (.int .u64 (lookV s i)) (loadS s t i)):=by
 have hok2:=H.2.load t i
 obtain ⟨⟨vw,vh,vl,H1⟩,hok⟩:=H
 cases hb:has s.ws.length i with
 | false =>
  have e2:loadS s t i=s:=by unfold loadS;rw [hb];rfl
  rw [e2]
  have HC:=Lib.hid (hasWord_any H1 i hb)
  have HM:Hid (MAt w O B s):=⟨⟨vw,vh,vl,H1⟩,hok⟩
  have HL:=Lib.hid (look_any HM.out i)
  generalize lookV s i=x at HL ⊢
  clear H1 e2 hb hok hok2
  go_enter Tryz.func109,Tryz.ntmps109
  go_wp2_with fail
  go_at_call 86
  refine HC.out.mono ?_
  rintro e w' ⟨rfl,rfl⟩
  go_wp2_with fail
  go_at_call 47
  refine HL.out.mono ?_
  rintro e w' ⟨rfl,rfl⟩
  go_wp2_with fail
  go_ret
  exact ⟨O,rfl,HM.out,Only.refl _ _,fun j hj=>.inl hj⟩
 | true =>
  have HC:=Lib.hid (hasWord_any H1 i hb)
  have e2:loadS s t i=say s t 3 (3 * i):=by unfold loadS;rw [hb];rfl
  have e3:lookV (say s t 3 (3 * i)) i=lookV s i:=rfl
  rw [e2] at hok2 ⊢
  have hi:0<=i/\i<=1099511627776:=by obtain ⟨j,rfl,hj⟩:=has_yes hb;have:=hok.wl;omega
  have HR:=Lib.hid (record_any H1 t 3 i 0 (3 * i) hi (by omega) (by omega) hl)
  have HK:=Lib.hid hok2
  have HL:Hid (∀ W O',MAt W O' B (say s t 3 (3 * i))->Calls Tryz.prog 47 #[ptr B,.int .i64 i] W fun e w'=>e = .returned (.int .u64 (lookV s i))/\W=w'):=fun W O' h=>e3 ▸ look_any h i
  generalize lookV s i=x at HL ⊢
  clear H1 e2 e3 hb hok hok2 hi hl
  go_enter Tryz.func109,Tryz.ntmps109
  go_wp2_with fail
  go_at_call 86
  refine HC.out.mono ?_
  rintro e w' ⟨rfl,rfl⟩
  go_wp2_with fail
  go_at_call 82
  refine HR.out.mono ?_
  rintro e w1 ⟨O',v,rfl,hm,ho,hO⟩
  have HM:Hid (MAt w1 O' B (say s t 3 (3 * i))):=⟨⟨_,_,_,hm⟩,HK.out⟩
  have HO:=Lib.hid ho
  have HP:=Lib.hid hO
  clear hm ho hO
  go_wp2_with fail
  go_at_call 47
  refine (HL.out _ _ HM.out).mono ?_
  rintro e w' ⟨rfl,rfl⟩
  go_wp2_with fail
  go_ret
  exact ⟨O',rfl,HM.out,HO.out,HP.out⟩
end
end Me
end Go.Proofs.YtcockldefmmhbaaGreatDoor
set_option linter.unusedVariables false
set_option linter.unusedSimpArgs false
set_option maxRecDepth 100000
namespace Go.Proofs.YtcockldefmmhbaaGreatDoor
open Go.ChangeShapes Go.WideShapes Go.ChangeAt Go.RowKit Go.Mtl Go.Lib
namespace Me
open MemM
theorem does_after {O O':Nat->Prop} {w w1 w2:World} (h1:Only O w w1) (h2:Only O w1 w2) (hO:∀ j,O' j->O j\/w1.heap.size<=j):Only O w w2/\∀ j,O' j->O j\/w.heap.size<=j :=
 ⟨h1.trans h2 (fun j h=>.inl h),fun j h=>(hO j h).imp id (fun h=>Nat.le_trans h1.size h)⟩
section
variable {w w':World} {O O':Nat->Prop} {B:Nat} {s:Ms}
set_option maxHeartbeats 1000000 in
theorem swap_any (H:MAt w O B s) (t i old now:Int) (hx:0<=now/\now<=18446744073709551615) (hl:s.ls.length<=1000000000000) :
  Calls Tryz.prog 154 #[ptr B,.int .i64 t,.int .i64 i,.int .u64 old,.int .u64 now] w (Does w O B (.bool (swapB s i old)) (swapS s t i old now)):=by
 have hok2:=H.2.swap t i old now hx
 obtain ⟨⟨vw,vh,vl,H1⟩,hok⟩:=H
 cases hb:has s.ws.length i with
 | false =>
  have e1:swapB s i old=false:=by unfold swapB;rw [hb];rfl
  have e2:swapS s t i old now=s:=by unfold swapS;rw [hb];rfl
  rw [e1,e2]
  have HC:=Lib.hid (hasWord_any H1 i hb)
  have HM:Hid (MAt w O B s):=⟨⟨vw,vh,vl,H1⟩,hok⟩
  clear H1 e1 e2 hb hok hok2
  go_enter Tryz.func154,Tryz.ntmps154
  go_wp2_with fail
  go_at_call 86
  refine HC.out.mono ?_
  rintro e w' ⟨rfl,rfl⟩
  go_wp2_with fail
  go_ret
  exact ⟨O,rfl,HM.out,Only.refl _ _,fun j hj=>.inl hj⟩
 | true =>
  have HC:=Lib.hid (hasWord_any H1 i hb)
  have hi:0<=i/\i<=1099511627776:=by obtain ⟨j,rfl,hj⟩:=has_yes hb;have:=hok.wl;omega
  by_cases ho:at_ s.ws i=old
  ·have e1:swapB s i old=true:=by unfold swapB;rw [hb,ho];simp
   have e2:swapS s t i old now=say { s with ws:=s.ws.set i.toNat now } t 4 (3 * i):=by unfold swapS;rw [hb,if_pos rfl,if_pos ho]
   rw [e2] at hok2
   rw [e1,e2]
   obtain ⟨j,rfl,hj⟩:=has_yes hb
   rw [at_nat] at ho
   rw [Int.toNat_natCast] at hok2 ⊢
   obtain ⟨g,c,rfl,h1,h2,hOg,c1,f1⟩:=H1.word hj
   rw [ho] at c1
   have c0:=H1.blk.cell 0 _ rfl
   have H2:=H1.setW rfl j now
   have HR:=Lib.hid (record_any H2 t 4 j 0 (3 * j) hi (by omega) (by omega) hl)
   have HO1:=Lib.hid ((Only.refl O w).setCell (p:=⟨g,j,none⟩) (.inl hOg) (.int .u64 now))
   have HK:=Lib.hid hok2
   clear H1 H2 e1 e2 ho hb hok hok2 hi hl hOg hx
   go_enter Tryz.func154,Tryz.ntmps154
   go_wp2_with fail
   go_at_call 86
   refine HC.out.mono ?_
   rintro e w' ⟨rfl,rfl⟩
   go_wp2_with fail
   go_at_call 82
   refine HR.out.mono ?_
   rintro e w1 ⟨O',v,rfl,hm,ho,hO⟩
   have HM:Hid (MAt w1 O' B (say { s with ws:=s.ws.set j now } t 4 (3 * j))):=⟨⟨_,_,_,hm⟩,HK.out⟩
   have HD:=Lib.hid (does_after HO1.out ho hO)
   clear hm ho hO
   go_wp2_with fail
   go_ret
   exact ⟨O',rfl,HM.out,HD.out⟩
  ·have e1:swapB s i old=false:=by unfold swapB;rw [hb];simpa using ho
   have e2:swapS s t i old now=say s t 3 (3 * i):=by unfold swapS;rw [hb,if_pos rfl,if_neg ho]
   rw [e2] at hok2
   rw [e1,e2]
   have HR:=Lib.hid (record_any H1 t 3 i 0 (3 * i) hi (by omega) (by omega) hl)
   obtain ⟨j,rfl,hj⟩:=has_yes hb
   rw [at_nat] at ho
   obtain ⟨g,c,rfl,h1,h2,hOg,c1,f1⟩:=H1.word hj
   generalize s.ws.getD j 0=x at *
   have d1:(x != old)=true:=by simpa using ho
   have c0:=H1.blk.cell 0 _ rfl
   have HK:=Lib.hid hok2
   clear H1 e1 e2 ho hb hok hok2 hi hl hOg hx f1
   go_enter Tryz.func154,Tryz.ntmps154
   go_wp2_with fail
   go_at_call 86
   refine HC.out.mono ?_
   rintro e w' ⟨rfl,rfl⟩
   go_wp2_with fail
   go_at_call 82
   refine HR.out.mono ?_
   rintro e w1 ⟨O',v,rfl,hm,ho,hO⟩
   have HM:Hid (MAt w1 O' B (say s t 3 (3 * j))):=⟨⟨_,_,_,hm⟩,HK.out⟩
   have HD:Hid (Only O w w1/\∀ j,O' j->O j\/w.heap.size<=j):=⟨ho,hO⟩
   clear hm ho hO c0 c1
   go_wp2_with fail
   go_ret
   exact ⟨O',rfl,HM.out,HD.out⟩
set_option maxHeartbeats 1000000 in
theorem lock_any (H:MAt w O B s) (t i:Int) (ht:t<=9223372036854775807) (hl:s.ls.length<=1000000000000) :
  Calls Tryz.prog 43 #[ptr B,.int .i64 t,.int .i64 i] w (Does w O B (.bool (lockB s t i)) (lockS s t i)):=by
 have hok2:=H.2.lock t i ht
 have HM0:=Lib.hid H
 obtain ⟨⟨vw,vh,vl,H1⟩,hok⟩:=H
 by_cases ht0:t < 0
 ·have e1:lockB s t i=false:=by unfold lockB;rw [decide_eq_false (by omega)];rfl
  have e2:lockS s t i=s:=by unfold lockS;rw [e1];rfl
  rw [e1,e2]
  clear H1 e1 e2 hok hok2
  go_enter Tryz.func43,Tryz.ntmps43
  go_wp2_with fail
  go_ret
  exact ⟨O,rfl,HM0.out,Only.refl _ _,fun j hj=>.inl hj⟩
 ·cases hb:has s.hs.length i with
  | false =>
   have e1:lockB s t i=false:=by unfold lockB;rw [hb];simp
   have e2:lockS s t i=s:=by unfold lockS;rw [e1];rfl
   rw [e1,e2]
   have HC:=Lib.hid (hasLock_any H1 i hb)
   clear H1 e1 e2 hb hok hok2
   go_enter Tryz.func43,Tryz.ntmps43
   go_wp2_with fail
   go_at_call 81
   refine HC.out.mono ?_
   rintro e w' ⟨rfl,rfl⟩
   go_wp2_with fail
   go_ret
   exact ⟨O,rfl,HM0.out,Only.refl _ _,fun j hj=>.inl hj⟩
  | true =>
   have HC:=Lib.hid (hasLock_any H1 i hb)
   have hi:0<=i/\i<=1099511627776:=by obtain ⟨j,rfl,hj⟩:=has_yes hb;have:=hok.hl;omega
   by_cases ho:at_ s.hs i=-1
   ·have e1:lockB s t i=true:=by unfold lockB;rw [hb,ho,decide_eq_true (by omega)];rfl
    have e2:lockS s t i=say { s with hs:=s.hs.set i.toNat t } t 1 (3 * i+1):=by unfold lockS;rw [e1,if_pos rfl]
    rw [e2] at hok2
    rw [e1,e2]
    obtain ⟨j,rfl,hj⟩:=has_yes hb
    rw [at_nat] at ho
    rw [Int.toNat_natCast] at hok2 ⊢
    obtain ⟨g,c,rfl,h1,h2,hOg,c1,f1⟩:=H1.hold hj
    rw [ho] at c1
    have c0:=H1.blk.cell 1 _ rfl
    have H2:=H1.setH rfl j t
    have HR:=Lib.hid (record_any H2 t 1 j 1 (3 * j+1) hi (by omega) (by omega) hl)
    have HO1:=Lib.hid ((Only.refl O w).setCell (p:=⟨g,j,none⟩) (.inl hOg) (.int .i64 t))
    have HK:=Lib.hid hok2
    clear H1 H2 e1 e2 ho hb hok hok2 hi hl hOg HM0
    go_enter Tryz.func43,Tryz.ntmps43
    go_wp2_with fail
    go_at_call 81
    refine HC.out.mono ?_
    rintro e w' ⟨rfl,rfl⟩
    go_wp2_with fail
    go_at_call 82
    refine HR.out.mono ?_
    rintro e w1 ⟨O',v,rfl,hm,ho,hO⟩
    have HM:Hid (MAt w1 O' B (say { s with hs:=s.hs.set j t } t 1 (3 * j+1))):=⟨⟨_,_,_,hm⟩,HK.out⟩
    have HD:=Lib.hid (does_after HO1.out ho hO)
    clear hm ho hO
    go_wp2_with fail
    go_ret
    exact ⟨O',rfl,HM.out,HD.out⟩
   ·have e1:lockB s t i=false:=by unfold lockB;rw [hb];simpa using fun _=>ho
    have e2:lockS s t i=s:=by unfold lockS;rw [e1];rfl
    rw [e1,e2]
    obtain ⟨j,rfl,hj⟩:=has_yes hb
    rw [at_nat] at ho
    obtain ⟨g,c,rfl,h1,h2,hOg,c1,f1⟩:=H1.hold hj
    generalize s.hs.getD j 0=x at *
    have d1:(x != -1)=true:=by simpa using ho
    have c0:=H1.blk.cell 1 _ rfl
    clear H1 e1 e2 ho hb hok hok2 hi hl hOg f1
    go_enter Tryz.func43,Tryz.ntmps43
    go_wp2_with fail
    go_at_call 81
    refine HC.out.mono ?_
    rintro e w' ⟨rfl,rfl⟩
    go_wp2_with fail
    go_ret
    exact ⟨O,rfl,HM0.out,Only.refl _ _,fun j hj=>.inl hj⟩
set_option maxHeartbeats 1000000 in
theorem touch_any (H:MAt w O B s) (t k i:Int) (hl:s.ls.length<=1000000000000) :
  Calls Tryz.prog 221 #[ptr B,.int .i64 t,.int .i64 k,.int .i64 i] w (Does w O B (.tuple #[]) (touchS s t k i)):=by
 have hok2:=H.2.touch t k i
 have HM0:=Lib.hid H
 obtain ⟨⟨vw,vh,vl,H1⟩,hok⟩:=H
 by_cases hi:0<=i/\i<=1099511627776
 ·have e2:touchS s t k i=say s t k (3 * i+2):=if_pos hi
  rw [e2] at hok2 ⊢
  have HR:=Lib.hid (record_any H1 t k i 2 (3 * i+2) hi (by omega) (by omega) hl)
  have HK:=Lib.hid hok2
  obtain ⟨i0,i1⟩:=hi
  clear H1 e2 hok hok2 hl HM0
  go_enter Tryz.func221,Tryz.ntmps221
  go_wp2_with fail
  go_at_call 82
  refine HR.out.mono ?_
  rintro e w1 ⟨O',v,rfl,hm,ho,hO⟩
  have HM:Hid (MAt w1 O' B (say s t k (3 * i+2))):=⟨⟨_,_,_,hm⟩,HK.out⟩
  have HD:Hid (Only O w w1/\∀ j,O' j->O j\/w.heap.size<=j):=⟨ho,hO⟩
  clear hm ho hO
  go_wp2_with fail
  go_end0
  exact ⟨O',rfl,HM.out,HD.out⟩
 ·have e2:touchS s t k i=s:=if_neg hi
  rw [e2]
  clear H1 e2 hok hok2 hl
  by_cases h0:i < 0
  ·have d0:decide (i>=0)=false:=by simpa using h0
   clear hi
   go_enter Tryz.func221,Tryz.ntmps221
   go_wp2_with fail
   go_end0
   exact ⟨O,rfl,HM0.out,Only.refl _ _,fun j hj=>.inl hj⟩
  ·have h1 : ¬ i<=1099511627776:=by omega
   have h2:0<=i:=by omega
   clear hi h0
   go_enter Tryz.func221,Tryz.ntmps221
   go_wp2_with fail
   go_end0
   exact ⟨O,rfl,HM0.out,Only.refl _ _,fun j hj=>.inl hj⟩
theorem write_any (H:MAt w O B s) (t i:Int) (hl:s.ls.length<=1000000000000):Calls Tryz.prog 165 #[ptr B,.int .i64 t,.int .i64 i] w (Does w O B (.tuple #[]) (touchS s t 6 i)):=by
 have HT:=Lib.hid (touch_any H t 6 i hl)
 clear H hl
 go_enter Tryz.func165,Tryz.ntmps165
 go_wp2_with fail
 go_at_call 221
 refine HT.out.mono ?_
 rintro e w1 ⟨O',rfl,hm,ho,hO⟩
 have HD:Hid (MAt w1 O' B (touchS s t 6 i)/\Only O w w1/\∀ j,O' j->O j\/w.heap.size<=j):=⟨hm,ho,hO⟩
 clear hm ho hO
 go_wp2_with fail
 go_end0
 exact ⟨O',rfl,HD.out⟩
end
end Me
end Go.Proofs.YtcockldefmmhbaaGreatDoor
