/- Several texts of this proof in one file, each in its own namespace. -/
import Derived.Test.YtcockldefmmhbaaGreatDoorSq
import Derived.Test.YtcockldefmmhbaaGreatDoorJ49
import Derived.Test.YtcockldefmmhbaaGreatDoorJ41
import Derived.Test.YtcockldefmmhbaaGreatDoorJ46
import Derived.Test.YtcockldefmmhbaaGreatDoorJ32
import Derived.Test.YtcockldefmmhbaaGreatDoorJ47
import Derived.Deep.CutBlock
import Derived.Test.YtcockldefmmhbaaGreatDoorJ43
import Derived.Test.YtcockldefmmhbaaGreatDoorPrgR
import Derived.Test.YtcockldefmmhbaaGreatDoorPrgV
import Derived.Test.YtcockldefmmhbaaGreatDoorMemE
import Derived.DeepKeys
set_option linter.unusedVariables false
set_option linter.unusedSimpArgs false
set_option maxRecDepth 100000
namespace Go.Proofs.YtcockldefmmhbaaGreatDoor
open Go.ChangeShapes Go.WideShapes Go.ChangeAt Go.RowKit Go.Mtl Go.Lib
namespace Pg
open MemM (Ms lookV loadS swapB swapS holdV lockB lockS unlockS touchS moreS)
open RulM (R)
open MatM (K)
open IpM (four four_lt)
open WirM (errW spN dpN flN kdN)
open AutM (Ke)
open Me (ptr)
open Tb (TAt TM Fw)
structure EnvB (w:World):Prop where
 pg:Env w
 tc:Tc.Env w
 ru:Ru.Env w
theorem EnvB.below {w w':World} (h:EnvB w) (hb:Below w.heap.size w w'):EnvB w':=⟨h.pg.below hb,h.tc.below hb (Nat.le_refl _),h.ru.below hb⟩
theorem of_key (p:K) (hp:p.Ok) (W:World):Calls Tryz.prog 65 #[.agg #[.int .u8 (p.pr:Int),.int .u32 (p.sr:Int),.int .u32 (p.ds:Int),.int .u16 (p.sp:Int),.int .u16 (p.dp:Int),.int .u8 (p.fl:Int),.int .u8 (p.kd:Int)]] W fun e w'=>e = .returned (.tuple #[.agg #[.int .u32 ((keyP p).a:Int),.int .u32 ((keyP p).b:Int),.int .u16 ((keyP p).p:Int),.int .u16 ((keyP p).q:Int),.int .u8 ((keyP p).r:Int)],.bool (dnP p)])/\Below W.heap.size W w':=by
 have hr:keyP p=if dnP p then ⟨p.ds,p.sr,p.dp,p.sp,p.pr⟩ else ⟨p.sr,p.ds,p.sp,p.dp,p.pr⟩:=rfl
 cases hd:dnP p with
 | true =>
  rw [hd,if_pos rfl] at hr
  rw [hr]
  exact Ky.of_any p.pr p.sr p.ds p.sp p.dp p.fl p.kd hp.sp hp.dp p.ds p.sr p.dp p.sp true hd (.inl ⟨rfl,rfl,rfl,rfl,rfl⟩) W
 | false =>
  rw [hd,if_neg (by simp)] at hr
  rw [hr]
  exact Ky.of_any p.pr p.sr p.ds p.sp p.dp p.fl p.kd hp.sp hp.dp p.sr p.ds p.sp p.dp false hd (.inr ⟨rfl,rfl,rfl,rfl,rfl⟩) W
section
variable {b:Bs} {W:World} {S:Sh} {r:Rn}
theorem Y.cells (H:Y b S r W) {w':World} {r':Rn} (ho:Only (· = b.g) W w') (h:∀ lv kv,Blk W b.g (rnc b.B r lv kv) 97->Blk w' b.g (rnc b.B r' lv kv) 97) (hl:r'.li=r.li) (hk:r'.ks=r.ks):Y b S r' w':=by
 obtain ⟨Om,Ot,K,pv,lv,kv,H⟩:=H
 have hK:∀ j,K j->¬ (j=b.g):=fun j hj=>(H.dk j hj).2.1
 exact ⟨Om,Ot,K,pv,lv,kv,H.step ho (fun j e=>.inr e) (H.mem.far ho fun j hj e=>H.dg (.inl (e ▸ hj))) (H.tab.far ho fun j hj e=>H.dg (.inr (.inl (e ▸ hj)))) (H.blk.only ho fun e=>H.dg (.inr (.inr (.inl e.symm)))) (H.map.only ho (fun e=>H.dg (.inr (.inr (.inr (.inl e.symm))))) hK)
  (row_keep H.pts fun g e=>ho.block g (H.pts.lt g e).2 fun h=>H.dg (.inr (.inr (.inr (.inr (h ▸ e)))))) (h lv kv H.run) (hl ▸ H.lis.only ho hK) (hk ▸ H.kes.only ho hK)
  (fun j h=>.inl h) H.dmt fun j h=>⟨(H.dp j h).1,.inl h⟩⟩
theorem Y.envB (H:Y b S r W) (he:EnvB b.w0):EnvB W:=by
 obtain ⟨Om,Ot,K,pv,lv,kv,H⟩:=H
 exact he.below H.bel
theorem only_g (W:World) (g:Nat):Only (· = g) W W:=Only.refl _ W
theorem Only.st {W w':World} {g:Nat} (h:Only (· = g) W w') (i:Nat) (v:Value):Only (· = g) W (w'.setCell ⟨g,i,none⟩ v):=h.setCell (p:=⟨g,i,none⟩) (.inl rfl) v
theorem Y.list (H:Y b S r W) {w':World} (hb:Below W.heap.size W w') {A:Option Addr} {c:Nat} {rs:List R} (hr:Rds w' w'.heap.size (.slice A rs.length c) rs) (hk:∀ g,(Value.slice A rs.length c).ownBlock=some g->W.heap.size<=g) (ho:∀ x ∈ rs,x.Ok):Y b S { r with li:=rs } (w'.setCell ⟨b.g,11,none⟩ (.slice A rs.length c)):=by
 obtain ⟨Om,Ot,K,pv,lv,kv,H⟩:=H
 rcases Nat.eq_zero_or_pos rs.length with h0 | h0
 ·exact ⟨Om,Ot,K,pv,_,kv,(H.next hb).set 11 _ rfl ⟨hr,fun h=>absurd h (by show ¬ 0 < rs.length;omega),ho⟩ (H.next hb).kes⟩
 ·obtain ⟨A',c',e,_,_,h4⟩:=id hr
  obtain ⟨g,off,rfl,hlt,_⟩:=h4 h0
  injection e with e
  subst e
  have hg:W.heap.size<=g:=hk g rfl
  have H2:=(H.next hb).more g (Nat.le_trans H.onl.size hg) (fun j hj=>.inl (Nat.lt_of_lt_of_le (hj.elim H.lt fun e=>e ▸ H.run.lt) hg)) hlt
  exact ⟨Om,Ot,_,pv,_,kv,H2.set 11 _ rfl ⟨hr,fun _ g' e'=>.inr (Option.some.inj e').symm,ho⟩ H2.kes⟩
theorem Y.lis11 (H:Y b S r W):∃ v,W.cell? ⟨b.g,11,none⟩=some v:=by
 obtain ⟨Om,Ot,K,pv,lv,kv,H⟩:=H
 exact ⟨lv,H.run.cell 11 _ rfl⟩
theorem refuse_any (H:Y b S r W) (x:Int):Calls Tryz.prog 42 #[ptr b.g,.int .i64 x] W (Yd b U S (refuseR r x)):=by
 have H1:=Lib.hid (H.set (r':={ r with e:=x }) 7 (.int .i64 x) (fun _ _=>rfl) rfl rfl)
 have q0:=H.frozen 7
 have q1:=H.cell 7 (.int .i64 r.e) (fun _ _=>rfl)
 clear H
 go_enter Tryz.func42,Tryz.ntmps42
 go_wp2_with fail
 go_at_call 37
 refine (then_any H1.out .endOp _ rfl).mono ?_
 rintro e w1 ⟨rfl,hy⟩
 have H2:=Lib.hid hy
 clear hy q0 q1
 go_wp2_with fail
 go_end0
 exact ⟨rfl,H2.out⟩
theorem isV_any (n:Int) (W:World):Calls Tryz.prog 50 #[.int .i64 n] W fun e w'=>e = .returned (.bool (decide (1<=n/\n<=5)))/\Below W.heap.size W w':=by
 by_cases h1:1<=n
 ·by_cases h2:n<=5
  ·rw [decide_eq_true (And.intro h1 h2)]
   have d1:decide (n>=1)=true:=decide_eq_true h1
   have d2:decide (n<=5)=true:=decide_eq_true h2
   go_enter Tryz.func50,Tryz.ntmps50
   go_wp2_with fail
   go_ret
   exact ⟨rfl,Below.refl _ _⟩
  ·rw [decide_eq_false (fun h=>h2 h.2)]
   have d1:decide (n>=1)=true:=decide_eq_true h1
   have d2:decide (n<=5)=false:=decide_eq_false h2
   go_enter Tryz.func50,Tryz.ntmps50
   go_wp2_with fail
   go_ret
   exact ⟨rfl,Below.refl _ _⟩
 ·rw [decide_eq_false (fun h=>h1 h.1)]
  have d1:decide (n>=1)=false:=decide_eq_false h1
  go_enter Tryz.func50,Tryz.ntmps50
  go_wp2_with fail
  go_ret
  exact ⟨rfl,Below.refl _ _⟩
theorem startStat_any (H:Y b S r W) (n:Int):Calls Tryz.prog 41 #[ptr b.g,.int .i64 n] W (Yd b U S (statR r n)):=by
 have HV:=Lib.hid (isV_any n W)
 have H0:=Lib.hid H
 unfold statR
 by_cases h:1<=n/\n<=5
 ·rw [if_pos h]
  rw [decide_eq_true h] at HV
  clear h H
  go_enter Tryz.func41,Tryz.ntmps41
  go_wp2_with fail
  go_at_call 50
  refine HV.out.mono ?_
  rintro e w1 ⟨rfl,hb⟩
  have H1:=Lib.hid (H0.out.next hb)
  clear hb H0 HV
  have H2:=Lib.hid (H1.out.set (r':={ r with z:=n }) 10 (.int .i64 n) (fun _ _=>rfl) rfl rfl)
  have q0:=H1.out.frozen 10
  have q1:=H1.out.cell 10 (.int .i64 r.z) (fun _ _=>rfl)
  go_wp2_with fail
  go_at_call 37
  refine (then_any H2.out .stat _ rfl).mono ?_
  rintro e w2 ⟨rfl,hy⟩
  have H3:=Lib.hid hy
  clear hy q0 q1
  go_wp2_with fail
  go_end0
  exact ⟨rfl,H3.out⟩
 ·rw [if_neg h]
  rw [decide_eq_false h] at HV
  clear h H
  go_enter Tryz.func41,Tryz.ntmps41
  go_wp2_with fail
  go_at_call 50
  refine HV.out.mono ?_
  rintro e w1 ⟨rfl,hb⟩
  have H1:=Lib.hid (H0.out.next hb)
  clear hb H0 HV
  go_wp2_with fail
  go_at_call 42
  refine (refuse_any H1.out 1).mono ?_
  rintro e w2 ⟨rfl,hy⟩
  have H3:=Lib.hid hy
  clear hy
  go_wp2_with fail
  go_end0
  exact ⟨rfl,H3.out⟩
theorem startSweep_any (H:Y b S r W) (hq:r.q=0) (fl:Bool):Calls Tryz.prog 40 #[ptr b.g] (W.setCell ⟨b.g,20,none⟩ (.bool fl)) (Yd b U S (sweepR r fl)):=by
 have ho:=Only.st (Only.st (Only.st (only_g W b.g) 20 (.bool fl)) 21 (fnV 76)) 22 (fnV 77)
 have H1:=Lib.hid (H.cells (r':={ r with q:=if fl then 4 else 6 }) ho (fun lv kv h=>by
  have h1:=h.set' 20 (.bool fl) rfl
  have h2:=h1.set' 21 (fnV 76) rfl
  refine h2.set' 22 (fnV 77) ?_
  cases fl <;> rfl) rfl rfl)
 obtain ⟨Om,Ot,K,pv,lv,kv,HR⟩:=H
 have h1:=HR.run.set' 20 (.bool fl) rfl
 have h2:=h1.set' 21 (fnV 76) rfl
 have q21:=h1.cell 21 (retryV r.q) rfl
 have q22:=h1.cell 22 (goneV r.q) rfl
 have f21:=h1.frozen 21
 have f22:=h1.frozen 22
 rw [hq] at q21 q22
 rw [show retryV 0 = .nilFunc from rfl] at q21
 rw [show goneV 0 = .nilFunc from rfl] at q22
 have HS:Hid (((((W.setCell ⟨b.g,20,none⟩ (.bool fl)).setCell ⟨b.g,21,none⟩ (.func (.func 76) #[] #[])).setCell ⟨b.g,22,none⟩ (.func (.func 77) #[] #[])).cell? ⟨b.g,23,none⟩)=some (.int .i64 (r.st:Int))):=(h2.set' 22 (fnV 77) rfl).cell 23 _ rfl
 clear HR h1 h2 ho
 generalize W.setCell ⟨b.g,20,none⟩ (.bool fl)=W1 at *
 have q23:=HS.out
 go_enter Tryz.func40,Tryz.ntmps40
 go_wp2_with fail
 go_at_call 69
 refine (lockThen_any H1.out (r.st:Int) .take _ rfl).mono ?_
 rintro e w1 ⟨rfl,hy⟩
 have H2:=Lib.hid hy
 clear hy q21 q22 f21 f22 q23
 go_wp2_with fail
 go_end0
 exact ⟨rfl,H2.out⟩
theorem startSwap_any (H:Y b S r W) (he:EnvB b.w0) (s:ByteArray) (hs:s.size<=maxLen):Calls Tryz.prog 39 #[ptr b.g,.string s] W (Yd b U S (swpR b.C r s.data.toList)):=by
 have HCP:Hid (Calls Tryz.prog 73 #[.string s] W (Ru.AnsN s.data.toList W)):=Ru.compile_new s W hs (H.envB he).ru
 have H0:=Lib.hid H
 have HOK:=Lib.hid (RulM.compile_le s.data.toList).2.2
 generalize s.data.toList=l at *
 unfold swpR
 clear hs he H
 by_cases h:(RulM.compile l).2.2=0
 ·rw [if_pos h]
  unfold Ru.AnsN at HCP
  rw [h] at HCP
  clear h
  generalize (RulM.compile l).1=rs at *
  generalize (RulM.compile l).2.1=ln at *
  go_enter Tryz.func39,Tryz.ntmps39
  go_wp2_with fail
  go_at_call 73
  refine HCP.out.mono ?_
  rintro e w1 ⟨v,rfl,hr,hk,hb⟩
  obtain ⟨A,c,rfl,-,-⟩:=hr.len
  have H1:=Lib.hid (H0.out.next hb)
  have HL:=Lib.hid (H0.out.list hb hr hk HOK.out)
  clear hb hr hk H0 HCP
  obtain ⟨lv,q1⟩:=H1.out.lis11
  have q0:=H1.out.frozen 11
  have q2:=HL.out.cell 0 (ptr b.B) (fun _ _=>rfl)
  go_wp2_with fail
  clear q0 q1
  go_at_call 74
  refine (rulesMutex_any HL.out).mono ?_
  rintro e w3 ⟨rfl,hy⟩
  have H3:=Lib.hid hy
  clear hy q2 HL
  go_wp2_with fail
  go_at_call 69
  refine (lockThen_any H3.out (b.C.n:Int) .claim _ rfl).mono ?_
  rintro e w4 ⟨rfl,hy⟩
  have H4:=Lib.hid hy
  clear hy
  go_wp2_with fail
  go_end0
  exact ⟨rfl,H4.out⟩
 ·rw [if_neg h]
  have hd:(((RulM.compile l).2.2:Int) != 0)=true:=by rw [bne_iff_ne];omega
  unfold Ru.AnsN at HCP
  clear h
  generalize (RulM.compile l).1=rs at *
  generalize (RulM.compile l).2.1=ln at *
  generalize (RulM.compile l).2.2=er at *
  go_enter Tryz.func39,Tryz.ntmps39
  go_wp2_with fail
  go_at_call 73
  refine HCP.out.mono ?_
  rintro e w1 ⟨v,rfl,hr,hk,hb⟩
  obtain ⟨A,c,rfl,-,-⟩:=hr.len
  have H1:=Lib.hid (H0.out.next hb)
  clear hb hr hk H0 HCP
  go_wp2_with fail
  go_at_call 42
  refine (refuse_any H1.out (er:Int)).mono ?_
  rintro e w2 ⟨rfl,hy⟩
  have H3:=Lib.hid hy
  clear hy
  go_wp2_with fail
  go_end0
  exact ⟨rfl,H3.out⟩
set_option maxHeartbeats 4000000 in
theorem startPacket_any (H:Y b S r W) (he:EnvB b.w0) (hq:r.q=0) (hpw:KeyM.isPow (b.C.n:Int)=true) (A:Option Addr) (n c:Nat) (bs:List UInt8) (B0:Nat) (hb:Bts W B0 A n bs) (hB:B0<=W.heap.size) (hc:n<=c) (hm:c<=9223372036854775807):Calls Tryz.prog 36 #[ptr b.g,.slice A n c] W (Yd b U S (packR b.C r bs)):=by
 have HPA:=Lib.hid (Wi.parse_any A n c bs B0 W hb hB hc hm (H.envB he).tc)
 have H0:=Lib.hid H
 have HPO:=Lib.hid (pkR_ok bs)
 clear hb hB hc hm he H
 unfold packR
 by_cases h:errW bs=0
 ·rw [if_pos h]
  have HQ:=Lib.hid hq
  rw [Wi.wV_ok h] at HPA
  have HPA:Hid (Calls Tryz.prog 63 #[.slice A n c] W fun e w'=>e = .returned (.tuple #[.agg #[.int .u8 ((pkR bs).pr:Int),.int .u32 ((pkR bs).sr:Int),.int .u32 ((pkR bs).ds:Int),.int .u16 ((pkR bs).sp:Int),.int .u16 ((pkR bs).dp:Int),.int .u8 ((pkR bs).fl:Int),.int .u8 ((pkR bs).kd:Int)],.int .i64 0])/\Below W.heap.size W w'):=HPA
  generalize pkR bs=P at *
  have HPW:=Lib.hid hpw
  clear h hq hpw
  go_enter Tryz.func36,Tryz.ntmps36
  go_wp2_with fail
  go_at_call 63
  refine HPA.out.mono ?_
  rintro e w1 ⟨rfl,hb⟩
  have H1:=Lib.hid (H0.out.next (hb.trans ((below_box w1 (.cells #[.int .u8 (P.pr:Int),.int .u32 (P.sr:Int),.int .u32 (P.ds:Int),.int .u16 (P.sp:Int),.int .u16 (P.dp:Int),.int .u8 (P.fl:Int),.int .u8 (P.kd:Int)] 95)).mono hb.size)))
  have HBX:=Lib.hid (Blk.box w1 #[.int .u8 (P.pr:Int),.int .u32 (P.sr:Int),.int .u32 (P.ds:Int),.int .u16 (P.sp:Int),.int .u16 (P.dp:Int),.int .u8 (P.fl:Int),.int .u8 (P.kd:Int)] 95)
  have HNG:Hid (b.g≠w1.heap.size):=fun e=>by have:=(H0.out.next hb).lt;omega
  clear hb H0 HPA
  have qf12:=H1.out.frozen 12
  have qc12:=H1.out.cell 12 (.int .u8 (r.p.pr:Int)) (fun _ _=>rfl)
  have qf13:=H1.out.frozen 13
  have qc13:=H1.out.cell 13 (.int .u32 (r.p.sr:Int)) (fun _ _=>rfl)
  have qf14:=H1.out.frozen 14
  have qc14:=H1.out.cell 14 (.int .u32 (r.p.ds:Int)) (fun _ _=>rfl)
  have qf15:=H1.out.frozen 15
  have qc15:=H1.out.cell 15 (.int .u16 (r.p.sp:Int)) (fun _ _=>rfl)
  have qf16:=H1.out.frozen 16
  have qc16:=H1.out.cell 16 (.int .u16 (r.p.dp:Int)) (fun _ _=>rfl)
  have qf17:=H1.out.frozen 17
  have qc17:=H1.out.cell 17 (.int .u8 (r.p.fl:Int)) (fun _ _=>rfl)
  have qf18:=H1.out.frozen 18
  have qc18:=H1.out.cell 18 (.int .u8 (r.p.kd:Int)) (fun _ _=>rfl)
  go_wp2_with fail
  have H2:=Lib.hid (((((((H1.out.set (r':={ r with p:=⟨P.pr,r.p.sr,r.p.ds,r.p.sp,r.p.dp,r.p.fl,r.p.kd⟩ }) 12 (.int .u8 (P.pr:Int)) (fun _ _=>rfl) rfl rfl).set (r':={ r with p:=⟨P.pr,P.sr,r.p.ds,r.p.sp,r.p.dp,r.p.fl,r.p.kd⟩ }) 13 (.int .u32 (P.sr:Int)) (fun _ _=>rfl) rfl rfl).set (r':={ r with p:=⟨P.pr,P.sr,P.ds,r.p.sp,r.p.dp,r.p.fl,r.p.kd⟩ }) 14 (.int .u32 (P.ds:Int)) (fun _ _=>rfl) rfl rfl).set (r':={ r with p:=⟨P.pr,P.sr,P.ds,P.sp,r.p.dp,r.p.fl,r.p.kd⟩ }) 15 (.int .u16 (P.sp:Int)) (fun _ _=>rfl) rfl rfl).set (r':={ r with p:=⟨P.pr,P.sr,P.ds,P.sp,P.dp,r.p.fl,r.p.kd⟩ }) 16 (.int .u16 (P.dp:Int)) (fun _ _=>rfl) rfl rfl).set (r':={ r with p:=⟨P.pr,P.sr,P.ds,P.sp,P.dp,P.fl,r.p.kd⟩ }) 17 (.int .u8 (P.fl:Int)) (fun _ _=>rfl) rfl rfl).set (r':={ r with p:=⟨P.pr,P.sr,P.ds,P.sp,P.dp,P.fl,P.kd⟩ }) 18 (.int .u8 (P.kd:Int)) (fun _ _=>rfl) rfl rfl)
  clear qf12 qc12 qf13 qc13 qf14 qc14 qf15 qc15 qf16 qc16 qf17 qc17 qf18 qc18
  clear HBX HNG H1
  generalize ((((((((w1.alloc (.cells #[.int .u8 (P.pr:Int),.int .u32 (P.sr:Int),.int .u32 (P.ds:Int),.int .u16 (P.sp:Int),.int .u16 (P.dp:Int),.int .u8 (P.fl:Int),.int .u8 (P.kd:Int)] 95)).setCell ⟨b.g,12,none⟩ (.int .u8 (P.pr:Int))).setCell ⟨b.g,13,none⟩ (.int .u32 (P.sr:Int))).setCell ⟨b.g,14,none⟩ (.int .u32 (P.ds:Int))).setCell ⟨b.g,15,none⟩ (.int .u16 (P.sp:Int))).setCell ⟨b.g,16,none⟩ (.int .u16 (P.dp:Int))).setCell ⟨b.g,17,none⟩ (.int .u8 (P.fl:Int))).setCell ⟨b.g,18,none⟩ (.int .u8 (P.kd:Int)))=w2 at *
  go_at_call 65
  refine (of_key P HPO.out _).mono ?_
  rintro e w3 ⟨rfl,hb⟩
  have H3:=Lib.hid (H2.out.next hb)
  clear hb H2
  have qf25:=H3.out.frozen 25
  have qc25:=H3.out.cell 25 (.int .u32 (({ r with p:=P }:Rn).k.a:Int)) (fun _ _=>rfl)
  have qf26:=H3.out.frozen 26
  have qc26:=H3.out.cell 26 (.int .u32 (({ r with p:=P }:Rn).k.b:Int)) (fun _ _=>rfl)
  have qf27:=H3.out.frozen 27
  have qc27:=H3.out.cell 27 (.int .u16 (({ r with p:=P }:Rn).k.p:Int)) (fun _ _=>rfl)
  have qf28:=H3.out.frozen 28
  have qc28:=H3.out.cell 28 (.int .u16 (({ r with p:=P }:Rn).k.q:Int)) (fun _ _=>rfl)
  have qf29:=H3.out.frozen 29
  have qc29:=H3.out.cell 29 (.int .u8 (({ r with p:=P }:Rn).k.r:Int)) (fun _ _=>rfl)
  have qf19:=H3.out.frozen 19
  have qc19:=H3.out.cell 19 (.bool ({ r with p:=P }:Rn).dn) (fun _ _=>rfl)
  go_wp2_with fail
  have H4:=Lib.hid ((((((H3.out.set (r':={ r with p:=P,k:=⟨(keyP P).a,r.k.b,r.k.p,r.k.q,r.k.r⟩ }) 25 (.int .u32 ((keyP P).a:Int)) (fun _ _=>rfl) rfl rfl).set (r':={ r with p:=P,k:=⟨(keyP P).a,(keyP P).b,r.k.p,r.k.q,r.k.r⟩ }) 26 (.int .u32 ((keyP P).b:Int)) (fun _ _=>rfl) rfl rfl).set (r':={ r with p:=P,k:=⟨(keyP P).a,(keyP P).b,(keyP P).p,r.k.q,r.k.r⟩ }) 27 (.int .u16 ((keyP P).p:Int)) (fun _ _=>rfl) rfl rfl).set (r':={ r with p:=P,k:=⟨(keyP P).a,(keyP P).b,(keyP P).p,(keyP P).q,r.k.r⟩ }) 28 (.int .u16 ((keyP P).q:Int)) (fun _ _=>rfl) rfl rfl).set (r':={ r with p:=P,k:=⟨(keyP P).a,(keyP P).b,(keyP P).p,(keyP P).q,(keyP P).r⟩ }) 29 (.int .u8 ((keyP P).r:Int)) (fun _ _=>rfl) rfl rfl).set (r':={ r with p:=P,k:=keyP P,dn:=dnP P }) 19 (.bool (dnP P)) (fun _ _=>rfl) rfl rfl)
  clear qf25 qc25 qf26 qc26 qf27 qc27 qf28 qc28 qf29 qc29 qf19 qc19
  clear H3
  generalize ((((((w3.setCell ⟨b.g,25,none⟩ (.int .u32 ((keyP P).a:Int))).setCell ⟨b.g,26,none⟩ (.int .u32 ((keyP P).b:Int))).setCell ⟨b.g,27,none⟩ (.int .u16 ((keyP P).p:Int))).setCell ⟨b.g,28,none⟩ (.int .u16 ((keyP P).q:Int))).setCell ⟨b.g,29,none⟩ (.int .u8 ((keyP P).r:Int))).setCell ⟨b.g,19,none⟩ (.bool (dnP P)))=w4 at *
  obtain ⟨r2,hr2⟩:∃ x,x=({ r with p:=P,k:=keyP P,dn:=dnP P }:Rn):=⟨_,rfl⟩
  rw [← hr2] at H4
  have HQ2:Hid (r2.q=0):=by show _=_;rw [hr2];exact HQ.out
  have HK2:Hid (r2.k=keyP P):=by show _=_;rw [hr2]
  have HR2:=Lib.hid hr2
  have hok:r2.k.Ok:=by rw [HK2.out];exact keyP_ok HPO.out
  have HST:Hid (∀ W,Calls Tryz.prog 66 #[.agg #[.int .u32 (r2.k.a:Int),.int .u32 (r2.k.b:Int),.int .u16 (r2.k.p:Int),.int .u16 (r2.k.q:Int),.int .u8 (r2.k.r:Int)],.int .i64 (b.C.n:Int)] W fun e w'=>e = .returned (.int .i64 ((Tb.sOf b.C.n r2.k:Nat):Int))/\Below W.heap.size W w'):=fun W =>
   Ky.stripe_any r2.k.a r2.k.b r2.k.p r2.k.q r2.k.r (b.C.n:Int) hok.a hok.b hok.p hok.q hok.r _ rfl _ (by rw [Tb.str_is HPW.out]) W
  clear hr2 hok HPO HQ HPW
  obtain ⟨st,hst⟩:∃ x,Tb.sOf b.C.n r2.k=x:=⟨_,rfl⟩
  rw [hst] at HST
  have HSO:=Lib.hid hst
  clear hst
  refine wp_region_held_drew (S:=fun w'=>w'.cell? ⟨b.g,25,none⟩=some (.int .u32 (r2.k.a:Int))/\w'.cell? ⟨b.g,26,none⟩=some (.int .u32 (r2.k.b:Int))/\w'.cell? ⟨b.g,27,none⟩=some (.int .u16 (r2.k.p:Int))/\w'.cell? ⟨b.g,28,none⟩=some (.int .u16 (r2.k.q:Int))/\w'.cell? ⟨b.g,29,none⟩=some (.int .u8 (r2.k.r:Int))/\w'.cell? ⟨b.g,0,none⟩=some (ptr b.B)/\w'.cell? ⟨b.B,0,none⟩=some (.int .i64 (b.C.n:Int))) (by kernel_rfl) (⟨H4.out.drew.cell 25 (.int .u32 (r2.k.a:Int)) (fun _ _=>rfl),H4.out.drew.cell 26 (.int .u32 (r2.k.b:Int)) (fun _ _=>rfl),H4.out.drew.cell 27 (.int .u16 (r2.k.p:Int)) (fun _ _=>rfl),H4.out.drew.cell 28 (.int .u16 (r2.k.q:Int)) (fun _ _=>rfl),H4.out.drew.cell 29 (.int .u8 (r2.k.r:Int)) (fun _ _=>rfl),H4.out.drew.cell 0 (ptr b.B) (fun _ _=>rfl),H4.out.drew.shared 0 (.int .i64 (b.C.n:Int)) (fun _=>rfl)⟩) (fun hH=>?_)
  refine zqt 0 (some 35) ?v1 rfl rfl ?c1 hH ?r1
  case c1=>(intro w' _;go_simp;(try with_reducible rfl))
  try simp only [Act.put,zq1,zq2,zq3]
  refine zqt 1 (some 36) ?v2 rfl rfl ?c2 hH ?r2
  case c2=>(intro w' _;go_simp;(try with_reducible rfl))
  try simp only [Act.put,zq1,zq2,zq3]
  refine zqt 2 (some 37) ?v3 rfl rfl ?c3 hH ?r3
  case c3=>(intro w' _;go_simp;(try with_reducible rfl))
  try simp only [Act.put,zq1,zq2,zq3]
  refine zqt 3 (some 38) ?v4 rfl rfl ?c4 hH ?r4
  case c4=>(intro w' _;go_simp;(try with_reducible rfl))
  try simp only [Act.put,zq1,zq2,zq3]
  refine zqt 4 (some 39) ?v5 rfl rfl ?c5 hH ?r5
  case c5=>(intro w' hS;(try dsimp only at hS);go_simp;(try with_reducible rfl))
  try simp only [Act.put,zq1,zq2,zq3]
  refine zqt 5 (some 40) ?v6 rfl rfl ?c6 hH ?r6
  case c6=>(intro w' _;go_simp;(try with_reducible rfl))
  try simp only [Act.put,zq1,zq2,zq3]
  refine zqt 6 (some 41) ?v7 rfl rfl ?c7 hH ?r7
  case c7=>(intro w' _;go_simp;(try with_reducible rfl))
  try simp only [Act.put,zq1,zq2,zq3]
  refine zqt 7 (some 42) ?v8 rfl rfl ?c8 hH ?r8
  case c8=>(intro w' _;go_simp;(try with_reducible rfl))
  try simp only [Act.put,zq1,zq2,zq3]
  refine zqt 8 (some 43) ?v9 rfl rfl ?c9 hH ?r9
  case c9=>(intro w' hS;(try dsimp only at hS);go_simp;(try with_reducible rfl))
  try simp only [Act.put,zq1,zq2,zq3]
  refine zqt 9 (some 44) ?v10 rfl rfl ?c10 hH ?r10
  case c10=>(intro w' _;go_simp;(try with_reducible rfl))
  try simp only [Act.put,zq1,zq2,zq3]
  refine zqt 10 (some 45) ?v11 rfl rfl ?c11 hH ?r11
  case c11=>(intro w' _;go_simp;(try with_reducible rfl))
  try simp only [Act.put,zq1,zq2,zq3]
  refine zqt 11 (some 46) ?v12 rfl rfl ?c12 hH ?r12
  case c12=>(intro w' _;go_simp;(try with_reducible rfl))
  try simp only [Act.put,zq1,zq2,zq3]
  refine zqt 12 (some 47) ?v13 rfl rfl ?c13 hH ?r13
  case c13=>(intro w' hS;(try dsimp only at hS);go_simp;(try with_reducible rfl))
  try simp only [Act.put,zq1,zq2,zq3]
  refine wpAnyH_ready (rs:=[13]) (by kernel_rfl) (by simp) (AllReadyH.cons rfl (fun K hK=>?_) (AllReadyH.nil))
  go_simp
  go_at_call 66
  refine (HST.out _).mono ?_
  rintro e w5 ⟨rfl,hy⟩
  refine hK.out _ _ (⟨(H4.out.drew.next hy).cell 25 (.int .u32 (r2.k.a:Int)) (fun _ _=>rfl),(H4.out.drew.next hy).cell 26 (.int .u32 (r2.k.b:Int)) (fun _ _=>rfl),(H4.out.drew.next hy).cell 27 (.int .u16 (r2.k.p:Int)) (fun _ _=>rfl),(H4.out.drew.next hy).cell 28 (.int .u16 (r2.k.q:Int)) (fun _ _=>rfl),(H4.out.drew.next hy).cell 29 (.int .u8 (r2.k.r:Int)) (fun _ _=>rfl),(H4.out.drew.next hy).cell 0 (ptr b.B) (fun _ _=>rfl),(H4.out.drew.next hy).shared 0 (.int .i64 (b.C.n:Int)) (fun _=>rfl)⟩) (fun hH=>?_)
  clear hK K
  have H5:=Lib.hid (H4.out.drew.next hy)
  clear hy H4
  try simp only [Act.put,zq1,zq2,zq3]
  refine zqt 14 (some 49) ?v14 rfl rfl ?c14 hH ?r14
  case c14=>(intro w' _;go_simp;(try with_reducible rfl))
  try simp only [Act.put,zq1,zq2,zq3]
  refine zqt 15 (some 50) ?v15 rfl rfl ?c15 hH ?r15
  case c15=>(intro w' _;go_simp;(try with_reducible rfl))
  try simp only [Act.put,zq1,zq2,zq3]
  refine wpAnyH_ready (rs:=[16]) (by kernel_rfl) (by simp) (AllReadyH.cons rfl (fun K hK=>?_) (AllReadyH.nil))
  have f0:=H5.out.frozen 23
  have c0:=H5.out.cell 23 (.int .i64 (r2.st:Int)) (fun _ _=>rfl)
  have H6:=Lib.hid (H5.out.set (r':={ r2 with st:=st }) 23 (.int .i64 (st:Int)) (fun _ _=>rfl) rfl rfl)
  go_simp
  clear c0 f0
  refine hK.out _ _ (⟨H6.out.cell 25 (.int .u32 (r2.k.a:Int)) (fun _ _=>rfl),H6.out.cell 26 (.int .u32 (r2.k.b:Int)) (fun _ _=>rfl),H6.out.cell 27 (.int .u16 (r2.k.p:Int)) (fun _ _=>rfl),H6.out.cell 28 (.int .u16 (r2.k.q:Int)) (fun _ _=>rfl),H6.out.cell 29 (.int .u8 (r2.k.r:Int)) (fun _ _=>rfl),H6.out.cell 0 (ptr b.B) (fun _ _=>rfl),H6.out.shared 0 (.int .i64 (b.C.n:Int)) (fun _=>rfl)⟩) (fun hH=>?_)
  clear hK K
  generalize w5.setCell ⟨b.g,23,none⟩ (.int .i64 (st:Int))=w6 at *
  clear H5
  try simp only [Act.put,zq1,zq2,zq3]
  refine wpAnyH_done (by kernel_rfl) ?_ _
  clear hH
  have ho:=Only.st (Only.st (only_g w6 b.g) 21 (fnV 67)) 22 (fnV 68)
  have H7:=Lib.hid (H6.out.cells (r':={ r2 with st:=st,q:=1 }) ho (fun lv kv h=>by
   have h1:=h.set' 21 (fnV 67) rfl
   refine h1.set' 22 (fnV 68) ?_
   have e:∀ c,(c == 0)=true->∀ x y:Bool,True:=fun _ _ _ _=>trivial
   have hq:=HQ2.out
   unfold rnc
   dsimp only
   rw [hq]
   rfl) rfl rfl)
  have q21:=H6.out.cell 21 .nilFunc (fun _ _=>by show some (retryV r2.q)=_;rw [HQ2.out];rfl)
  have q22:=H6.out.cell 22 .nilFunc (fun _ _=>by show some (goneV r2.q)=_;rw [HQ2.out];rfl)
  have f21:=H6.out.frozen 21
  have f22:=H6.out.frozen 22
  have q23:((w6.setCell ⟨b.g,21,none⟩ (.func (.func 67) #[] #[])).setCell ⟨b.g,22,none⟩ (.func (.func 68) #[] #[])).cell? ⟨b.g,23,none⟩=some (.int .i64 (st:Int)):=H7.out.cell 23 (.int .i64 (st:Int)) (fun _ _=>rfl)
  clear ho H6
  go_wp2_with fail
  go_at_call 69
  refine (lockThen_any H7.out (st:Int) .find _ rfl).mono ?_
  rintro e w9 ⟨rfl,hy⟩
  have H9:=Lib.hid hy
  clear hy
  go_wp2_with fail
  go_end0
  have h1:=HR2.out
  have h2:=HSO.out
  have h3:=HK2.out
  rw [h3] at h2
  subst h1
  subst h2
  exact ⟨rfl,H9.out⟩
 ·rw [if_neg h]
  have hd:((errW bs:Int) != 0)=true:=by rw [bne_iff_ne];omega
  rw [Wi.wV_bad h] at HPA
  generalize errW bs=er at *
  clear h hq hpw HPO
  go_enter Tryz.func36,Tryz.ntmps36
  go_wp2_with fail
  go_at_call 63
  refine HPA.out.mono ?_
  rintro e w1 ⟨rfl,hb⟩
  have H1:=Lib.hid (H0.out.next (hb.trans ((below_box w1 (.cells (Wi.pkt 0 0 0 0 0 0 0) 95)).mono hb.size)))
  have H2:=Lib.hid (H1.out.set (r':={ r with e:=(er:Int) }) 7 (.int .i64 (er:Int)) (fun _ _=>rfl) rfl rfl)
  have q0:=H1.out.frozen 7
  have q1:=H1.out.cell 7 (.int .i64 r.e) (fun _ _=>rfl)
  clear hb H0 HPA
  go_wp2_with fail
  go_at_call 37
  refine (then_any H2.out .malformed _ rfl).mono ?_
  rintro e w2 ⟨rfl,hy⟩
  have H3:=Lib.hid hy
  clear hy q0 q1
  go_wp2_with fail
  go_end0
  exact ⟨rfl,H3.out⟩
end
end Pg
end Go.Proofs.YtcockldefmmhbaaGreatDoor
set_option linter.unusedVariables false
set_option linter.unusedSimpArgs false
set_option maxRecDepth 100000
namespace Go.Proofs.YtcockldefmmhbaaGreatDoor
open Go.ChangeShapes Go.WideShapes Go.ChangeAt Go.RowKit Go.Mtl Go.Lib
namespace Pg
open MemM (Ms lookV loadS swapB swapS holdV lockB lockS unlockS touchS moreS)
open RulM (R)
open MatM (K)
open AutM (Ke)
open Me (ptr)
open Tb (TAt TM Fw)
abbrev opc (kd n:Int) (A:Option Addr) (l c:Nat) (s:ByteArray):Array Value:=#[.int .i64 kd,.int .i64 n,.slice A l c,.string s]
section
variable {b:Bs} {W Wr w':World} {Om Ot K:Nat->Prop} {pv lv kv:Value} {S S':Sh} {r r':Rn} {g:Nat}
theorem SR.done2 (H:SR b Om Ot K pv S W) (h:RB b Om Ot K pv g lv kv r W) (hy:Y (b.at_ g W (Own Om Ot b.B b.rm pv) K) S' r' w') :
  ∃ Om' Ot' K' pv',SR b Om' Ot' K' pv' S' w'/\RA b Om' Ot' K' pv' g r' w'/\(∀ g2 r2,g2≠g->RA b Om Ot K pv g2 r2 W->RA b Om' Ot' K' pv' g2 r2 w')/\Only (fun j=>Own Om Ot b.B b.rm pv j\/j=g) W w'/\(∀ j,Own Om' Ot' b.B b.rm pv' j->Own Om Ot b.B b.rm pv j\/W.heap.size<=j)/\(∀ j,K' j->K j\/W.heap.size<=j):=by
 obtain ⟨Om',Ot',K',pv',lv',kv',Y⟩:=hy
 have hK:∀ j,K j->¬ (Own Om Ot b.B b.rm pv j\/j=g):=fun j hj e=>e.elim (H.dk j hj).1 fun e=>h.nk (e ▸ hj)
 refine ⟨Om',Ot',K',pv',
  {mem:=Y.mem,tab:=Y.tab,blk:=Y.blk,map:=Y.map,pts:=Y.pts,bel:=Y.bel,nm:=Y.nm,nt:=Y.nt,nb:=Y.nb,nr:=Y.nr,dmt:=Y.dmt,dm:=Y.dm,dt:=Y.dt,br:=Y.br,dp:=Y.dp
   dk:=fun j hj=>⟨(Y.dk j hj).1,(Y.dk j hj).2.2⟩ },
  ⟨lv',kv',Y.run,Y.lis,Y.kes,Y.ng,Y.dg,fun e=>(Y.dk g e).2.1 rfl⟩,fun g2 r2 hne h2=>?_,Y.onl,Y.og,Y.kn⟩
 obtain ⟨lv2,kv2,h2⟩:=h2
 have hlt:=h2.run.lt
 exact ⟨lv2,kv2,h2.run.only Y.onl fun e=>e.elim h2.dg hne,(h2.lis.only Y.onl hK).mono Y.kg,(h2.kes.only Y.onl hK).mono Y.kg,h2.ng,
  fun e=>(Y.og g2 e).elim h2.dg fun e=>(by have:W.heap.size<=g2:=e;omega),fun e=>(Y.kn g2 e).elim h2.nk fun e=>(by have:W.heap.size<=g2:=e;omega)⟩
theorem SR.fresh (H:SR b Om Ot K pv S W) (t op:Int):RB b Om Ot K pv W.heap.size (.slice none 0 0) (.slice none 0 0) (rz t op) (W.alloc (.cells (rnc b.B (rz t op) (.slice none 0 0) (.slice none 0 0)) 97)) :=
 ⟨Blk.box _ _ _,Lv.nil _ _,Kv.nil _ _,H.bel.size,fun e=>by have:=H.lt e;omega,fun e=>by have:=(H.dk _ e).2;omega⟩
def BegP (b:Bs) (Om Ot K:Nat->Prop) (pv:Value) (S:Sh) (W:World) (r:Rn) (e:Ending) (w':World):Prop:=∃ g Om' Ot' K' pv',e = .returned (ptr g)/\W.heap.size<=g/\SR b Om' Ot' K' pv' S w'/\RA b Om' Ot' K' pv' g r w' ∧
 (∀ g2 r2,RA b Om Ot K pv g2 r2 W->RA b Om' Ot' K' pv' g2 r2 w')/\Only (Own Om Ot b.B b.rm pv) W w'/\(∀ j,Own Om' Ot' b.B b.rm pv' j->Own Om Ot b.B b.rm pv j\/W.heap.size<=j)/\(∀ j,K' j->K j\/W.heap.size<=j)
theorem beg_done (H:SR b Om Ot K pv S W) (hbr:Below W.heap.size W Wr) (hg:W.heap.size<=g) (h:RB b Om Ot K pv g lv kv r Wr) (hy:Y (b.at_ g Wr (Own Om Ot b.B b.rm pv) K) S r' w'):BegP b Om Ot K pv S W r' (.returned (ptr g)) w':=by
 obtain ⟨Om',Ot',K',pv',h1,h2,h3,h4,h5,h6⟩:=(H.next hbr).done2 h hy
 have hs:=hbr.size
 refine ⟨g,Om',Ot',K',pv',rfl,hg,h1,h2,fun g2 r2 h=>?_,?_,fun j hj=>(h5 j hj).imp id fun h=>Nat.le_trans hs h,fun j hj=>(h6 j hj).imp id fun h=>Nat.le_trans hs h⟩
 ·have hl:g2 < W.heap.size:=by obtain ⟨_,_,h⟩:=h;exact h.run.lt
  exact h3 g2 r2 (by omega) (h.next hbr)
 ·exact (Only.of_below hbr).trans h4 fun j hj=>hj.elim .inl fun e=>.inr (e ▸ hg)
theorem begin_pkt (H:SR b Om Ot K pv S W) (t op:Int) (ht:0<=t) (n:Int) (A:Option Addr) (l c:Nat) (s:ByteArray) (he:EnvB b.w0) (hpw:KeyM.isPow (b.C.n:Int)=true) (bs:List UInt8) (hb:Bts W W.heap.size A l bs) (hc:l<=c) (hm:c<=9223372036854775807):Calls Tryz.prog 11 #[ptr b.B,.int .i64 t,.int .i64 op,.agg (opc 1 n A l c s)] W (BegP b Om Ot K pv S W (packR b.C (rz t op) bs)):=by
 have HE:=Lib.hid he
 have HPW:=Lib.hid hpw
 have HBT:=Lib.hid hb
 have HC:Hid (l<=c/\c<=9223372036854775807):=⟨hc,hm⟩
 clear he hpw hb hc hm
 have HS:=Lib.hid H
 have hb1:=below_box W (.cells #[.int .i64 1,.int .i64 n,.slice A l c,.string s] 39)
 have q18:=(H.next hb1).blk.cell 18 (ptr b.mb) rfl
 have dt:decide (t < 0)=false:=by simp;omega
 have hrb:=(H.next hb1).fresh t op
 have hb2:=below_box (W.alloc (.cells #[.int .i64 1,.int .i64 n,.slice A l c,.string s] 39)) (.cells (rnc b.B (rz t op) (.slice none 0 0) (.slice none 0 0)) 97)
 have hbl:Below W.heap.size W ((W.alloc (.cells #[.int .i64 1,.int .i64 n,.slice A l c,.string s] 39)).alloc (.cells (rnc b.B (rz t op) (.slice none 0 0) (.slice none 0 0)) 97)):=hb1.trans (hb2.mono hb1.size)
 have hxx:=(Blk.box W #[.int .i64 1,.int .i64 n,.slice A l c,.string s] 39).alloc (.cells (rnc b.B (rz t op) (.slice none 0 0) (.slice none 0 0)) 97)
 rw [World.size_alloc] at hrb
 clear hb2
 have HRBX:=Lib.hid hrb
 have HBLX:=Lib.hid hbl
 have HXXX:=Lib.hid hxx
 clear hrb hbl hxx
 go_enter Tryz.func11,Tryz.ntmps11
 go_upto_region 4 with fail
 obtain ⟨W2,hW2⟩:∃ V,(W.alloc (.cells #[.int .i64 1,.int .i64 n,.slice A l c,.string s] 39)).alloc (.cells #[ptr b.B,.int .i64 t,.int .i64 op,.nilFunc,.int .i64 (-1),.bool false,.bool false,.int .i64 0,.int .i64 0,.int .i64 0,.int .i64 0,.slice none 0 0,.int .u8 0,.int .u32 0,.int .u32 0,.int .u16 0,.int .u16 0,.int .u8 0,.int .u8 0,.bool false,.bool false,.nilFunc,.nilFunc,.int .i64 0,.slice none 0 0,.int .u32 0,.int .u32 0,.int .u16 0,.int .u16 0,.int .u8 0,.int .i64 0,.bool false,.int .i64 0,.int .i64 0,.int .u64 0,.int .u64 0,.int .u64 0] 97)=V:=⟨_,rfl⟩
 rw [hW2]
 have HRB:Hid (RB b Om Ot K pv (W.heap.size+1) (.slice none 0 0) (.slice none 0 0) (rz t op) W2):=by rw [← hW2];exact HRBX.out
 have HB:Hid (Below W.heap.size W W2):=by rw [← hW2];exact HBLX.out
 have HX:Hid (Blk W2 W.heap.size #[.int .i64 1,.int .i64 n,.slice A l c,.string s] 39):=by rw [← hW2];exact HXXX.out
 have HG:Hid (W.heap.size<=W.heap.size+1):=Nat.le_succ _
 clear hW2 q18 dt hb1 HRBX HBLX HXXX
 obtain ⟨g,hg⟩:∃ x,W.heap.size+1=x:=⟨_,rfl⟩
 rw [hg] at HRB HG
 try rw [hg]
 try simp only [hg]
 obtain ⟨gx,hgx⟩:∃ x,W.heap.size=x:=⟨_,rfl⟩
 rw [hgx] at HX
 try rw [hgx]
 clear hg hgx
 have x0:=HX.out.cell 0 _ rfl
 have x1:=HX.out.cell 1 _ rfl
 have x2:=HX.out.cell 2 _ rfl
 have x3:=HX.out.cell 3 _ rfl
 have H1:Hid (Y (b.at_ g W2 (Own Om Ot b.B b.rm pv) K) S (rz t op) W2):=(H.next HB.out).begin_ ⟨_,_,HRB.out⟩
 clear H
 go_wp2_with fail
 go_at_call 36
 refine (startPacket_any H1.out HE.out rfl HPW.out A l c bs W.heap.size (HBT.out.below HB.out) HB.out.size HC.out.1 HC.out.2).mono ?_
 rintro e w9 ⟨rfl,hy⟩
 have H9:=Lib.hid hy
 clear hy
 go_wp2_with fail
 go_ret
 exact beg_done HS.out HB.out HG.out HRB.out H9.out
theorem begin_tick (H:SR b Om Ot K pv S W) (t op:Int) (ht:0<=t) (n:Int) (A:Option Addr) (l c:Nat) (s:ByteArray):Calls Tryz.prog 11 #[ptr b.B,.int .i64 t,.int .i64 op,.agg (opc 2 n A l c s)] W (BegP b Om Ot K pv S W ({ rz t op with z:=n,at_:=.readClock })):=by
 have HS:=Lib.hid H
 have hb1:=below_box W (.cells #[.int .i64 2,.int .i64 n,.slice A l c,.string s] 39)
 have q18:=(H.next hb1).blk.cell 18 (ptr b.mb) rfl
 have dt:decide (t < 0)=false:=by simp;omega
 have hrb:=(H.next hb1).fresh t op
 have hb2:=below_box (W.alloc (.cells #[.int .i64 2,.int .i64 n,.slice A l c,.string s] 39)) (.cells (rnc b.B (rz t op) (.slice none 0 0) (.slice none 0 0)) 97)
 have hbl:Below W.heap.size W ((W.alloc (.cells #[.int .i64 2,.int .i64 n,.slice A l c,.string s] 39)).alloc (.cells (rnc b.B (rz t op) (.slice none 0 0) (.slice none 0 0)) 97)):=hb1.trans (hb2.mono hb1.size)
 have hxx:=(Blk.box W #[.int .i64 2,.int .i64 n,.slice A l c,.string s] 39).alloc (.cells (rnc b.B (rz t op) (.slice none 0 0) (.slice none 0 0)) 97)
 rw [World.size_alloc] at hrb
 clear hb2
 have HRBX:=Lib.hid hrb
 have HBLX:=Lib.hid hbl
 have HXXX:=Lib.hid hxx
 clear hrb hbl hxx
 go_enter Tryz.func11,Tryz.ntmps11
 go_upto_region 4 with fail
 obtain ⟨W2,hW2⟩:∃ V,(W.alloc (.cells #[.int .i64 2,.int .i64 n,.slice A l c,.string s] 39)).alloc (.cells #[ptr b.B,.int .i64 t,.int .i64 op,.nilFunc,.int .i64 (-1),.bool false,.bool false,.int .i64 0,.int .i64 0,.int .i64 0,.int .i64 0,.slice none 0 0,.int .u8 0,.int .u32 0,.int .u32 0,.int .u16 0,.int .u16 0,.int .u8 0,.int .u8 0,.bool false,.bool false,.nilFunc,.nilFunc,.int .i64 0,.slice none 0 0,.int .u32 0,.int .u32 0,.int .u16 0,.int .u16 0,.int .u8 0,.int .i64 0,.bool false,.int .i64 0,.int .i64 0,.int .u64 0,.int .u64 0,.int .u64 0] 97)=V:=⟨_,rfl⟩
 rw [hW2]
 have HRB:Hid (RB b Om Ot K pv (W.heap.size+1) (.slice none 0 0) (.slice none 0 0) (rz t op) W2):=by rw [← hW2];exact HRBX.out
 have HB:Hid (Below W.heap.size W W2):=by rw [← hW2];exact HBLX.out
 have HX:Hid (Blk W2 W.heap.size #[.int .i64 2,.int .i64 n,.slice A l c,.string s] 39):=by rw [← hW2];exact HXXX.out
 have HG:Hid (W.heap.size<=W.heap.size+1):=Nat.le_succ _
 clear hW2 q18 dt hb1 HRBX HBLX HXXX
 obtain ⟨g,hg⟩:∃ x,W.heap.size+1=x:=⟨_,rfl⟩
 rw [hg] at HRB HG
 try rw [hg]
 try simp only [hg]
 obtain ⟨gx,hgx⟩:∃ x,W.heap.size=x:=⟨_,rfl⟩
 rw [hgx] at HX
 try rw [hgx]
 clear hg hgx
 have x0:=HX.out.cell 0 _ rfl
 have x1:=HX.out.cell 1 _ rfl
 have x2:=HX.out.cell 2 _ rfl
 have x3:=HX.out.cell 3 _ rfl
 have H1:Hid (Y (b.at_ g W2 (Own Om Ot b.B b.rm pv) K) S (rz t op) W2):=(H.next HB.out).begin_ ⟨_,_,HRB.out⟩
 clear H
 have H2:=Lib.hid (H1.out.set (r':={ rz t op with z:=n }) 10 (.int .i64 n) (fun _ _=>rfl) rfl rfl)
 have f10:W2.frozen? ⟨g,10,none⟩=false:=H1.out.frozen 10
 have c10:W2.cell? ⟨g,10,none⟩=some (.int .i64 0):=H1.out.cell 10 (.int .i64 0) (fun _ _=>rfl)
 go_wp2_with fail
 go_at_call 37
 refine (then_any H2.out .readClock _ rfl).mono ?_
 rintro e w9 ⟨rfl,hy⟩
 have H9:=Lib.hid hy
 clear hy
 go_wp2_with fail
 go_ret
 exact beg_done HS.out HB.out HG.out HRB.out H9.out
theorem begin_swap (H:SR b Om Ot K pv S W) (t op:Int) (ht:0<=t) (n:Int) (A:Option Addr) (l c:Nat) (s:ByteArray) (he:EnvB b.w0) (hs:s.size<=maxLen):Calls Tryz.prog 11 #[ptr b.B,.int .i64 t,.int .i64 op,.agg (opc 3 n A l c s)] W (BegP b Om Ot K pv S W (swpR b.C (rz t op) s.data.toList)):=by
 have HE:=Lib.hid he
 have HZ:=Lib.hid hs
 clear he hs
 have HS:=Lib.hid H
 have hb1:=below_box W (.cells #[.int .i64 3,.int .i64 n,.slice A l c,.string s] 39)
 have q18:=(H.next hb1).blk.cell 18 (ptr b.mb) rfl
 have dt:decide (t < 0)=false:=by simp;omega
 have hrb:=(H.next hb1).fresh t op
 have hb2:=below_box (W.alloc (.cells #[.int .i64 3,.int .i64 n,.slice A l c,.string s] 39)) (.cells (rnc b.B (rz t op) (.slice none 0 0) (.slice none 0 0)) 97)
 have hbl:Below W.heap.size W ((W.alloc (.cells #[.int .i64 3,.int .i64 n,.slice A l c,.string s] 39)).alloc (.cells (rnc b.B (rz t op) (.slice none 0 0) (.slice none 0 0)) 97)):=hb1.trans (hb2.mono hb1.size)
 have hxx:=(Blk.box W #[.int .i64 3,.int .i64 n,.slice A l c,.string s] 39).alloc (.cells (rnc b.B (rz t op) (.slice none 0 0) (.slice none 0 0)) 97)
 rw [World.size_alloc] at hrb
 clear hb2
 have HRBX:=Lib.hid hrb
 have HBLX:=Lib.hid hbl
 have HXXX:=Lib.hid hxx
 clear hrb hbl hxx
 go_enter Tryz.func11,Tryz.ntmps11
 go_upto_region 4 with fail
 obtain ⟨W2,hW2⟩:∃ V,(W.alloc (.cells #[.int .i64 3,.int .i64 n,.slice A l c,.string s] 39)).alloc (.cells #[ptr b.B,.int .i64 t,.int .i64 op,.nilFunc,.int .i64 (-1),.bool false,.bool false,.int .i64 0,.int .i64 0,.int .i64 0,.int .i64 0,.slice none 0 0,.int .u8 0,.int .u32 0,.int .u32 0,.int .u16 0,.int .u16 0,.int .u8 0,.int .u8 0,.bool false,.bool false,.nilFunc,.nilFunc,.int .i64 0,.slice none 0 0,.int .u32 0,.int .u32 0,.int .u16 0,.int .u16 0,.int .u8 0,.int .i64 0,.bool false,.int .i64 0,.int .i64 0,.int .u64 0,.int .u64 0,.int .u64 0] 97)=V:=⟨_,rfl⟩
 rw [hW2]
 have HRB:Hid (RB b Om Ot K pv (W.heap.size+1) (.slice none 0 0) (.slice none 0 0) (rz t op) W2):=by rw [← hW2];exact HRBX.out
 have HB:Hid (Below W.heap.size W W2):=by rw [← hW2];exact HBLX.out
 have HX:Hid (Blk W2 W.heap.size #[.int .i64 3,.int .i64 n,.slice A l c,.string s] 39):=by rw [← hW2];exact HXXX.out
 have HG:Hid (W.heap.size<=W.heap.size+1):=Nat.le_succ _
 clear hW2 q18 dt hb1 HRBX HBLX HXXX
 obtain ⟨g,hg⟩:∃ x,W.heap.size+1=x:=⟨_,rfl⟩
 rw [hg] at HRB HG
 try rw [hg]
 try simp only [hg]
 obtain ⟨gx,hgx⟩:∃ x,W.heap.size=x:=⟨_,rfl⟩
 rw [hgx] at HX
 try rw [hgx]
 clear hg hgx
 have x0:=HX.out.cell 0 _ rfl
 have x1:=HX.out.cell 1 _ rfl
 have x2:=HX.out.cell 2 _ rfl
 have x3:=HX.out.cell 3 _ rfl
 have H1:Hid (Y (b.at_ g W2 (Own Om Ot b.B b.rm pv) K) S (rz t op) W2):=(H.next HB.out).begin_ ⟨_,_,HRB.out⟩
 clear H
 go_wp2_with fail
 go_at_call 39
 refine (startSwap_any H1.out HE.out s HZ.out).mono ?_
 rintro e w9 ⟨rfl,hy⟩
 have H9:=Lib.hid hy
 clear hy
 go_wp2_with fail
 go_ret
 exact beg_done HS.out HB.out HG.out HRB.out H9.out
theorem begin_sweep4 (H:SR b Om Ot K pv S W) (t op:Int) (ht:0<=t) (n:Int) (A:Option Addr) (l c:Nat) (s:ByteArray):Calls Tryz.prog 11 #[ptr b.B,.int .i64 t,.int .i64 op,.agg (opc 4 n A l c s)] W (BegP b Om Ot K pv S W (sweepR (rz t op) true)):=by
 have HS:=Lib.hid H
 have hb1:=below_box W (.cells #[.int .i64 4,.int .i64 n,.slice A l c,.string s] 39)
 have q18:=(H.next hb1).blk.cell 18 (ptr b.mb) rfl
 have dt:decide (t < 0)=false:=by simp;omega
 have hrb:=(H.next hb1).fresh t op
 have hb2:=below_box (W.alloc (.cells #[.int .i64 4,.int .i64 n,.slice A l c,.string s] 39)) (.cells (rnc b.B (rz t op) (.slice none 0 0) (.slice none 0 0)) 97)
 have hbl:Below W.heap.size W ((W.alloc (.cells #[.int .i64 4,.int .i64 n,.slice A l c,.string s] 39)).alloc (.cells (rnc b.B (rz t op) (.slice none 0 0) (.slice none 0 0)) 97)):=hb1.trans (hb2.mono hb1.size)
 have hxx:=(Blk.box W #[.int .i64 4,.int .i64 n,.slice A l c,.string s] 39).alloc (.cells (rnc b.B (rz t op) (.slice none 0 0) (.slice none 0 0)) 97)
 rw [World.size_alloc] at hrb
 clear hb2
 have HRBX:=Lib.hid hrb
 have HBLX:=Lib.hid hbl
 have HXXX:=Lib.hid hxx
 clear hrb hbl hxx
 go_enter Tryz.func11,Tryz.ntmps11
 go_upto_region 4 with fail
 obtain ⟨W2,hW2⟩:∃ V,(W.alloc (.cells #[.int .i64 4,.int .i64 n,.slice A l c,.string s] 39)).alloc (.cells #[ptr b.B,.int .i64 t,.int .i64 op,.nilFunc,.int .i64 (-1),.bool false,.bool false,.int .i64 0,.int .i64 0,.int .i64 0,.int .i64 0,.slice none 0 0,.int .u8 0,.int .u32 0,.int .u32 0,.int .u16 0,.int .u16 0,.int .u8 0,.int .u8 0,.bool false,.bool false,.nilFunc,.nilFunc,.int .i64 0,.slice none 0 0,.int .u32 0,.int .u32 0,.int .u16 0,.int .u16 0,.int .u8 0,.int .i64 0,.bool false,.int .i64 0,.int .i64 0,.int .u64 0,.int .u64 0,.int .u64 0] 97)=V:=⟨_,rfl⟩
 rw [hW2]
 have HRB:Hid (RB b Om Ot K pv (W.heap.size+1) (.slice none 0 0) (.slice none 0 0) (rz t op) W2):=by rw [← hW2];exact HRBX.out
 have HB:Hid (Below W.heap.size W W2):=by rw [← hW2];exact HBLX.out
 have HX:Hid (Blk W2 W.heap.size #[.int .i64 4,.int .i64 n,.slice A l c,.string s] 39):=by rw [← hW2];exact HXXX.out
 have HG:Hid (W.heap.size<=W.heap.size+1):=Nat.le_succ _
 clear hW2 q18 dt hb1 HRBX HBLX HXXX
 obtain ⟨g,hg⟩:∃ x,W.heap.size+1=x:=⟨_,rfl⟩
 rw [hg] at HRB HG
 try rw [hg]
 try simp only [hg]
 obtain ⟨gx,hgx⟩:∃ x,W.heap.size=x:=⟨_,rfl⟩
 rw [hgx] at HX
 try rw [hgx]
 clear hg hgx
 have x0:=HX.out.cell 0 _ rfl
 have x1:=HX.out.cell 1 _ rfl
 have x2:=HX.out.cell 2 _ rfl
 have x3:=HX.out.cell 3 _ rfl
 have H1:Hid (Y (b.at_ g W2 (Own Om Ot b.B b.rm pv) K) S (rz t op) W2):=(H.next HB.out).begin_ ⟨_,_,HRB.out⟩
 clear H
 have f20:W2.frozen? ⟨g,20,none⟩=false:=H1.out.frozen 20
 have c20:W2.cell? ⟨g,20,none⟩=some (.bool false):=H1.out.cell 20 (.bool false) (fun _ _=>rfl)
 go_wp2_with fail
 go_at_call 40
 refine (startSweep_any H1.out rfl true).mono ?_
 rintro e w9 ⟨rfl,hy⟩
 have H9:=Lib.hid hy
 clear hy
 go_wp2_with fail
 go_ret
 exact beg_done HS.out HB.out HG.out HRB.out H9.out
theorem begin_sweep6 (H:SR b Om Ot K pv S W) (t op:Int) (ht:0<=t) (n:Int) (A:Option Addr) (l c:Nat) (s:ByteArray):Calls Tryz.prog 11 #[ptr b.B,.int .i64 t,.int .i64 op,.agg (opc 6 n A l c s)] W (BegP b Om Ot K pv S W (sweepR (rz t op) false)):=by
 have HS:=Lib.hid H
 have hb1:=below_box W (.cells #[.int .i64 6,.int .i64 n,.slice A l c,.string s] 39)
 have q18:=(H.next hb1).blk.cell 18 (ptr b.mb) rfl
 have dt:decide (t < 0)=false:=by simp;omega
 have hrb:=(H.next hb1).fresh t op
 have hb2:=below_box (W.alloc (.cells #[.int .i64 6,.int .i64 n,.slice A l c,.string s] 39)) (.cells (rnc b.B (rz t op) (.slice none 0 0) (.slice none 0 0)) 97)
 have hbl:Below W.heap.size W ((W.alloc (.cells #[.int .i64 6,.int .i64 n,.slice A l c,.string s] 39)).alloc (.cells (rnc b.B (rz t op) (.slice none 0 0) (.slice none 0 0)) 97)):=hb1.trans (hb2.mono hb1.size)
 have hxx:=(Blk.box W #[.int .i64 6,.int .i64 n,.slice A l c,.string s] 39).alloc (.cells (rnc b.B (rz t op) (.slice none 0 0) (.slice none 0 0)) 97)
 rw [World.size_alloc] at hrb
 clear hb2
 have HRBX:=Lib.hid hrb
 have HBLX:=Lib.hid hbl
 have HXXX:=Lib.hid hxx
 clear hrb hbl hxx
 go_enter Tryz.func11,Tryz.ntmps11
 go_upto_region 4 with fail
 obtain ⟨W2,hW2⟩:∃ V,(W.alloc (.cells #[.int .i64 6,.int .i64 n,.slice A l c,.string s] 39)).alloc (.cells #[ptr b.B,.int .i64 t,.int .i64 op,.nilFunc,.int .i64 (-1),.bool false,.bool false,.int .i64 0,.int .i64 0,.int .i64 0,.int .i64 0,.slice none 0 0,.int .u8 0,.int .u32 0,.int .u32 0,.int .u16 0,.int .u16 0,.int .u8 0,.int .u8 0,.bool false,.bool false,.nilFunc,.nilFunc,.int .i64 0,.slice none 0 0,.int .u32 0,.int .u32 0,.int .u16 0,.int .u16 0,.int .u8 0,.int .i64 0,.bool false,.int .i64 0,.int .i64 0,.int .u64 0,.int .u64 0,.int .u64 0] 97)=V:=⟨_,rfl⟩
 rw [hW2]
 have HRB:Hid (RB b Om Ot K pv (W.heap.size+1) (.slice none 0 0) (.slice none 0 0) (rz t op) W2):=by rw [← hW2];exact HRBX.out
 have HB:Hid (Below W.heap.size W W2):=by rw [← hW2];exact HBLX.out
 have HX:Hid (Blk W2 W.heap.size #[.int .i64 6,.int .i64 n,.slice A l c,.string s] 39):=by rw [← hW2];exact HXXX.out
 have HG:Hid (W.heap.size<=W.heap.size+1):=Nat.le_succ _
 clear hW2 q18 dt hb1 HRBX HBLX HXXX
 obtain ⟨g,hg⟩:∃ x,W.heap.size+1=x:=⟨_,rfl⟩
 rw [hg] at HRB HG
 try rw [hg]
 try simp only [hg]
 obtain ⟨gx,hgx⟩:∃ x,W.heap.size=x:=⟨_,rfl⟩
 rw [hgx] at HX
 try rw [hgx]
 clear hg hgx
 have x0:=HX.out.cell 0 _ rfl
 have x1:=HX.out.cell 1 _ rfl
 have x2:=HX.out.cell 2 _ rfl
 have x3:=HX.out.cell 3 _ rfl
 have H1:Hid (Y (b.at_ g W2 (Own Om Ot b.B b.rm pv) K) S (rz t op) W2):=(H.next HB.out).begin_ ⟨_,_,HRB.out⟩
 clear H
 have f20:W2.frozen? ⟨g,20,none⟩=false:=H1.out.frozen 20
 have c20:W2.cell? ⟨g,20,none⟩=some (.bool false):=H1.out.cell 20 (.bool false) (fun _ _=>rfl)
 go_wp2_with fail
 go_at_call 40
 refine (startSweep_any H1.out rfl false).mono ?_
 rintro e w9 ⟨rfl,hy⟩
 have H9:=Lib.hid hy
 clear hy
 go_wp2_with fail
 go_ret
 exact beg_done HS.out HB.out HG.out HRB.out H9.out
theorem begin_stat (H:SR b Om Ot K pv S W) (t op:Int) (ht:0<=t) (n:Int) (A:Option Addr) (l c:Nat) (s:ByteArray):Calls Tryz.prog 11 #[ptr b.B,.int .i64 t,.int .i64 op,.agg (opc 5 n A l c s)] W (BegP b Om Ot K pv S W (statR (rz t op) n)):=by
 have HS:=Lib.hid H
 have hb1:=below_box W (.cells #[.int .i64 5,.int .i64 n,.slice A l c,.string s] 39)
 have q18:=(H.next hb1).blk.cell 18 (ptr b.mb) rfl
 have dt:decide (t < 0)=false:=by simp;omega
 have hrb:=(H.next hb1).fresh t op
 have hb2:=below_box (W.alloc (.cells #[.int .i64 5,.int .i64 n,.slice A l c,.string s] 39)) (.cells (rnc b.B (rz t op) (.slice none 0 0) (.slice none 0 0)) 97)
 have hbl:Below W.heap.size W ((W.alloc (.cells #[.int .i64 5,.int .i64 n,.slice A l c,.string s] 39)).alloc (.cells (rnc b.B (rz t op) (.slice none 0 0) (.slice none 0 0)) 97)):=hb1.trans (hb2.mono hb1.size)
 have hxx:=(Blk.box W #[.int .i64 5,.int .i64 n,.slice A l c,.string s] 39).alloc (.cells (rnc b.B (rz t op) (.slice none 0 0) (.slice none 0 0)) 97)
 rw [World.size_alloc] at hrb
 clear hb2
 have HRBX:=Lib.hid hrb
 have HBLX:=Lib.hid hbl
 have HXXX:=Lib.hid hxx
 clear hrb hbl hxx
 go_enter Tryz.func11,Tryz.ntmps11
 go_upto_region 4 with fail
 obtain ⟨W2,hW2⟩:∃ V,(W.alloc (.cells #[.int .i64 5,.int .i64 n,.slice A l c,.string s] 39)).alloc (.cells #[ptr b.B,.int .i64 t,.int .i64 op,.nilFunc,.int .i64 (-1),.bool false,.bool false,.int .i64 0,.int .i64 0,.int .i64 0,.int .i64 0,.slice none 0 0,.int .u8 0,.int .u32 0,.int .u32 0,.int .u16 0,.int .u16 0,.int .u8 0,.int .u8 0,.bool false,.bool false,.nilFunc,.nilFunc,.int .i64 0,.slice none 0 0,.int .u32 0,.int .u32 0,.int .u16 0,.int .u16 0,.int .u8 0,.int .i64 0,.bool false,.int .i64 0,.int .i64 0,.int .u64 0,.int .u64 0,.int .u64 0] 97)=V:=⟨_,rfl⟩
 rw [hW2]
 have HRB:Hid (RB b Om Ot K pv (W.heap.size+1) (.slice none 0 0) (.slice none 0 0) (rz t op) W2):=by rw [← hW2];exact HRBX.out
 have HB:Hid (Below W.heap.size W W2):=by rw [← hW2];exact HBLX.out
 have HX:Hid (Blk W2 W.heap.size #[.int .i64 5,.int .i64 n,.slice A l c,.string s] 39):=by rw [← hW2];exact HXXX.out
 have HG:Hid (W.heap.size<=W.heap.size+1):=Nat.le_succ _
 clear hW2 q18 dt hb1 HRBX HBLX HXXX
 obtain ⟨g,hg⟩:∃ x,W.heap.size+1=x:=⟨_,rfl⟩
 rw [hg] at HRB HG
 try rw [hg]
 try simp only [hg]
 obtain ⟨gx,hgx⟩:∃ x,W.heap.size=x:=⟨_,rfl⟩
 rw [hgx] at HX
 try rw [hgx]
 clear hg hgx
 have x0:=HX.out.cell 0 _ rfl
 have x1:=HX.out.cell 1 _ rfl
 have x2:=HX.out.cell 2 _ rfl
 have x3:=HX.out.cell 3 _ rfl
 have H1:Hid (Y (b.at_ g W2 (Own Om Ot b.B b.rm pv) K) S (rz t op) W2):=(H.next HB.out).begin_ ⟨_,_,HRB.out⟩
 clear H
 go_wp2_with fail
 go_at_call 41
 refine (startStat_any H1.out n).mono ?_
 rintro e w9 ⟨rfl,hy⟩
 have H9:=Lib.hid hy
 clear hy
 go_wp2_with fail
 go_ret
 exact beg_done HS.out HB.out HG.out HRB.out H9.out
theorem begin_bad (H:SR b Om Ot K pv S W) (t op:Int) (ht:0<=t) (n:Int) (A:Option Addr) (l c:Nat) (s:ByteArray) (kd:Int) (h1:kd≠1) (h2:kd≠2) (h3:kd≠3) (h4:kd≠4) (h5:kd≠5) (h6:kd≠6):Calls Tryz.prog 11 #[ptr b.B,.int .i64 t,.int .i64 op,.agg (opc kd n A l c s)] W (BegP b Om Ot K pv S W (refuseR (rz t op) 1)):=by
 have d1:(kd == 1)=false:=by simpa using h1
 have d2:(kd == 2)=false:=by simpa using h2
 have d3:(kd == 3)=false:=by simpa using h3
 have d4:(kd == 4)=false:=by simpa using h4
 have d5:(kd == 5)=false:=by simpa using h5
 have d6:(kd == 6)=false:=by simpa using h6
 clear h1 h2 h3 h4 h5 h6
 have HS:=Lib.hid H
 have hb1:=below_box W (.cells #[.int .i64 kd,.int .i64 n,.slice A l c,.string s] 39)
 have q18:=(H.next hb1).blk.cell 18 (ptr b.mb) rfl
 have dt:decide (t < 0)=false:=by simp;omega
 have hrb:=(H.next hb1).fresh t op
 have hb2:=below_box (W.alloc (.cells #[.int .i64 kd,.int .i64 n,.slice A l c,.string s] 39)) (.cells (rnc b.B (rz t op) (.slice none 0 0) (.slice none 0 0)) 97)
 have hbl:Below W.heap.size W ((W.alloc (.cells #[.int .i64 kd,.int .i64 n,.slice A l c,.string s] 39)).alloc (.cells (rnc b.B (rz t op) (.slice none 0 0) (.slice none 0 0)) 97)):=hb1.trans (hb2.mono hb1.size)
 have hxx:=(Blk.box W #[.int .i64 kd,.int .i64 n,.slice A l c,.string s] 39).alloc (.cells (rnc b.B (rz t op) (.slice none 0 0) (.slice none 0 0)) 97)
 rw [World.size_alloc] at hrb
 clear hb2
 have HRBX:=Lib.hid hrb
 have HBLX:=Lib.hid hbl
 have HXXX:=Lib.hid hxx
 clear hrb hbl hxx
 go_enter Tryz.func11,Tryz.ntmps11
 go_upto_region 4 with fail
 obtain ⟨W2,hW2⟩:∃ V,(W.alloc (.cells #[.int .i64 kd,.int .i64 n,.slice A l c,.string s] 39)).alloc (.cells #[ptr b.B,.int .i64 t,.int .i64 op,.nilFunc,.int .i64 (-1),.bool false,.bool false,.int .i64 0,.int .i64 0,.int .i64 0,.int .i64 0,.slice none 0 0,.int .u8 0,.int .u32 0,.int .u32 0,.int .u16 0,.int .u16 0,.int .u8 0,.int .u8 0,.bool false,.bool false,.nilFunc,.nilFunc,.int .i64 0,.slice none 0 0,.int .u32 0,.int .u32 0,.int .u16 0,.int .u16 0,.int .u8 0,.int .i64 0,.bool false,.int .i64 0,.int .i64 0,.int .u64 0,.int .u64 0,.int .u64 0] 97)=V:=⟨_,rfl⟩
 rw [hW2]
 have HRB:Hid (RB b Om Ot K pv (W.heap.size+1) (.slice none 0 0) (.slice none 0 0) (rz t op) W2):=by rw [← hW2];exact HRBX.out
 have HB:Hid (Below W.heap.size W W2):=by rw [← hW2];exact HBLX.out
 have HX:Hid (Blk W2 W.heap.size #[.int .i64 kd,.int .i64 n,.slice A l c,.string s] 39):=by rw [← hW2];exact HXXX.out
 have HG:Hid (W.heap.size<=W.heap.size+1):=Nat.le_succ _
 clear hW2 q18 dt hb1 HRBX HBLX HXXX
 obtain ⟨g,hg⟩:∃ x,W.heap.size+1=x:=⟨_,rfl⟩
 rw [hg] at HRB HG
 try rw [hg]
 try simp only [hg]
 obtain ⟨gx,hgx⟩:∃ x,W.heap.size=x:=⟨_,rfl⟩
 rw [hgx] at HX
 try rw [hgx]
 clear hg hgx
 have x0:=HX.out.cell 0 _ rfl
 have x1:=HX.out.cell 1 _ rfl
 have x2:=HX.out.cell 2 _ rfl
 have x3:=HX.out.cell 3 _ rfl
 have H1:Hid (Y (b.at_ g W2 (Own Om Ot b.B b.rm pv) K) S (rz t op) W2):=(H.next HB.out).begin_ ⟨_,_,HRB.out⟩
 clear H
 go_wp2_with fail
 go_at_call 42
 refine (refuse_any H1.out 1).mono ?_
 rintro e w9 ⟨rfl,hy⟩
 have H9:=Lib.hid hy
 clear hy
 go_wp2_with fail
 go_ret
 exact beg_done HS.out HB.out HG.out HRB.out H9.out
theorem begin_any (H:SR b Om Ot K pv S W) (t op:Int) (ht:0<=t) (n:Int) (A:Option Addr) (l c:Nat) (s:ByteArray) (kd:Int) (he:EnvB b.w0) (hpw:KeyM.isPow (b.C.n:Int)=true) (bs:List UInt8) (hb:Bts W W.heap.size A l bs) (hc:l<=c) (hm:c<=9223372036854775807) (hs:s.size<=maxLen):Calls Tryz.prog 11 #[ptr b.B,.int .i64 t,.int .i64 op,.agg (opc kd n A l c s)] W (BegP b Om Ot K pv S W (begR b.C t op kd n bs s.data.toList)):=by
 unfold begR
 by_cases h1:kd=1
 ·subst h1;rw [if_pos rfl];exact begin_pkt H t op ht n A l c s he hpw bs hb hc hm
 rw [if_neg h1]
 by_cases h2:kd=2
 ·subst h2;rw [if_pos rfl];exact begin_tick H t op ht n A l c s
 rw [if_neg h2]
 by_cases h3:kd=3
 ·subst h3;rw [if_pos rfl];exact begin_swap H t op ht n A l c s he hs
 rw [if_neg h3]
 by_cases h4:kd=4
 ·subst h4;rw [if_pos rfl];exact begin_sweep4 H t op ht n A l c s
 rw [if_neg h4]
 by_cases h6:kd=6
 ·subst h6;rw [if_pos rfl];exact begin_sweep6 H t op ht n A l c s
 rw [if_neg h6]
 by_cases h5:kd=5
 ·subst h5;rw [if_pos rfl];exact begin_stat H t op ht n A l c s
 rw [if_neg h5]
 exact begin_bad H t op ht n A l c s kd h1 h2 h3 h4 h5 h6
theorem begin_nil (W:World) (t op kd n:Int) (A:Option Addr) (l c:Nat) (s:ByteArray):Calls Tryz.prog 11 #[.pointer none,.int .i64 t,.int .i64 op,.agg (opc kd n A l c s)] W fun e w'=>e = .returned (.pointer none)/\Below W.heap.size W w':=by
 have HB:=Lib.hid (below_box W (.cells (opc kd n A l c s) 39))
 go_enter Tryz.func11,Tryz.ntmps11
 go_wp2_with fail
 go_ret
 exact ⟨rfl,HB.out⟩
theorem begin_neg (H:SR b Om Ot K pv S W) (t op kd n:Int) (ht:t < 0) (A:Option Addr) (l c:Nat) (s:ByteArray):Calls Tryz.prog 11 #[ptr b.B,.int .i64 t,.int .i64 op,.agg (opc kd n A l c s)] W fun e w'=>e = .returned (.pointer none)/\Below W.heap.size W w':=by
 have hb1:=below_box W (.cells (opc kd n A l c s) 39)
 have HB:=Lib.hid hb1
 have q18:=(H.next hb1).blk.cell 18 (ptr b.mb) rfl
 have dt:decide (t < 0)=true:=by simpa using ht
 clear hb1 H
 go_enter Tryz.func11,Tryz.ntmps11
 go_wp2_with fail
 go_ret
 exact ⟨rfl,HB.out⟩
end
end Pg
end Go.Proofs.YtcockldefmmhbaaGreatDoor
set_option linter.unusedVariables false
set_option linter.unusedSimpArgs false
set_option maxRecDepth 100000
namespace Go.Proofs.YtcockldefmmhbaaGreatDoor
open Go.ChangeShapes Go.WideShapes Go.ChangeAt Go.RowKit Go.Mtl Go.Lib Go.Deep
namespace Pg
structure Ov where
 kd:Int
 n:Int
 A:Option Addr
 l:Nat
 c:Nat
 bs:List UInt8
 s:ByteArray
abbrev ovc (x:Ov):Array Value:=opc x.kd x.n x.A x.l x.c x.s
structure Ov.Ok (x:Ov):Prop where
 kd : -9223372036854775808<=x.kd/\x.kd<=9223372036854775807
 n : -9223372036854775808<=x.n/\x.n<=9223372036854775807
 l:x.l<=x.c
 c:x.c<=maxLen
 s:x.s.size<=maxLen
def Ovs (w:World) (B:Nat) (v:Value) (xs:List Ov):Prop:=∃ A c,v = .slice A xs.length c/\xs.length<=c/\c<=maxLen ∧
 (0 < xs.length->∃ b off,A=some ⟨b,off,none⟩/\b < B/\∀ (i:Nat) (x:Ov),xs[i]? = some x->∀ (j:Nat) (u:Value),(ovc x)[j]? = some u->w.cell? ⟨b,off+(i * 4+j),none⟩=some u)/\∀ x ∈ xs,Bts w B x.A x.l x.bs
theorem Ovs.keep {w w':World} {B:Nat} {v:Value} {xs:List Ov} (H:Ovs w B v xs) (hk:∀ p:Addr,p.block < B->w'.cell? p=w.cell? p):Ovs w' B v xs:=by
 obtain ⟨A,c,e,h1,h2,h3,h4⟩:=H
 exact ⟨A,c,e,h1,h2,fun hn=>by
  obtain ⟨b,off,e1,e2,e3⟩:=h3 hn
  exact ⟨b,off,e1,e2,fun i x hx j u hu=>(hk _ e2).trans (e3 i x hx j u hu)⟩,fun x hx=>(h4 x hx).keep hk⟩
theorem Ovs.below {w w':World} {B:Nat} {v:Value} {xs:List Ov} (H:Ovs w B v xs) (hb:Below B w w'):Ovs w' B v xs:=H.keep fun _ hp=>hb.cell hp
section
variable {H:Type} {enc:TypeId × Value->H} {P:Program} {w:World}
structure OpTypes (P:Program) (t:TypeId):Prop where
 ty:∃ (fs:Array Field) (ti tb tc ts:TypeId),P.underlying t=some (.struct fs)/\fs.toList.map (fun f=>(f.type,f.offset))=[(ti,0),(ti,1),(tb,2),(ts,3)] ∧
  P.underlying ti=some (.int .i64)/\P.underlying tb=some (.slice tc)/\P.underlying tc=some (.int .u8)/\P.cellsOf tc=1/\P.underlying ts=some .string/\P.cellsOf t=4/\P.cellsOf ti=1/\P.cellsOf tb=1/\P.cellsOf ts=1
theorem open_four {t:TypeId} (D:OpTypes P t) {n:Nat} {cs:List Value} (hl:cs.length=4) {x:DataW H × List MemPlace} (h:DataW.trod enc P w 0 (fun _=>true) true n t cs=some x) :
  ∃ y:Ov,cs=(ovc y).toList/\y.Ok/\Bts w w.heap.size y.A y.l y.bs:=by
 obtain ⟨fs,ti,tb,tc,ts,hs,hf,hi,hb,hc,cc,hst,ct,ci,cb,c_s⟩:=D.ty
 obtain ⟨ys,m,_,_,_,hyl,hg⟩:=DataW.trod_struct hs h
 obtain ⟨fl⟩:=fs
 obtain ⟨f0,f1,f2,f3,rfl⟩:∃ f0 f1 f2 f3,fl=[f0,f1,f2,f3]:=by
  rcases fl with _ | ⟨f0,_ | ⟨f1,_ | ⟨f2,_ | ⟨f3,_ | ⟨f4,fl⟩⟩⟩⟩⟩
  ·simp at hf
  ·simp at hf
  ·simp at hf
  ·simp at hf
  ·exact ⟨_,_,_,_,rfl⟩
  ·simp at hf
 simp only [List.map_cons,List.map_nil,List.cons.injEq,Prod.mk.injEq,and_true] at hf
 obtain ⟨⟨e0,o0⟩,⟨e1,o1⟩,⟨e2,o2⟩,e3,o3⟩:=hf
 have hy:ys.length=4:=hyl
 have g0:=hg 0 f0 rfl
 have g1:=hg 1 f1 rfl
 have g2:=hg 2 f2 rfl
 have g3:=hg 3 f3 rfl
 rw [e0,o0,ci,List.getElem?_eq_getElem (by omega)] at g0
 rw [e1,o1,ci,List.getElem?_eq_getElem (by omega)] at g1
 rw [e2,o2,cb,List.getElem?_eq_getElem (by omega)] at g2
 rw [e3,o3,c_s,List.getElem?_eq_getElem (by omega)] at g3
 match cs,hl with
 | [v0,v1,v2,v3],_ =>
  simp only [List.drop_zero,List.take_succ_cons,List.take_zero,List.drop_succ_cons] at g0 g1 g2 g3
  obtain ⟨kd,ekd,_,wkd⟩:=DataW.trod_int hi g0
  obtain ⟨xn,exn,_,wxn⟩:=DataW.trod_int hi g1
  obtain rfl:v0 = .int .i64 kd:=by simpa using ekd
  obtain rfl:v1 = .int .i64 xn:=by simpa using exn
  obtain ⟨s,es,_,hsz⟩:=DataW.trod_string hst g3
  obtain rfl:v3 = .string s:=by simpa using es
  rcases open_ints hb hc cc g2 with ⟨hcs,_⟩ | ⟨a,l,c,zs,hcs,_,hl2,hm,hz,_,hcell,hwz⟩
  ·obtain rfl:v2 = .slice none 0 0:=by simpa using hcs
   exact ⟨⟨kd,xn,none,0,0,[],s⟩,rfl,⟨bounds_i64 wkd,bounds_i64 wxn,Nat.le_refl _,Nat.zero_le _,hsz⟩,Bts.empty _ _ _⟩
  ·obtain rfl:v2 = .slice (some a) l c:=by simpa using hcs
   obtain ⟨bs,hbs⟩:=bts_of_cells (len:=l) (by rw [hz];simp;omega) hcell hwz
   exact ⟨⟨kd,xn,some a,l,c,bs,s⟩,rfl,⟨bounds_i64 wkd,bounds_i64 wxn,hl2,hm,hsz⟩,hbs⟩
theorem open_op {r:Reach} {b0:Nat} {t:TypeId} (D:OpTypes P t) {v:Value} {d:DataW H} {p:List MemPlace} (hv:Value.okWide P w r b0 t v) (h:DataW.Trod enc P w 0 (fun _=>true) true t v d p) :
  ∃ y:Ov,v = .agg (ovc y)/\y.Ok/\Bts w w.heap.size y.A y.l y.bs:=by
 obtain ⟨fs,ti,tb,tc,ts,hs,hf,hi,hb,hc,cc,hst,ct,ci,cb,c_s⟩:=id D.ty
 obtain ⟨vs,rfl,hsz⟩:=okWide_struct hs hv
 obtain ⟨fuel,hfu⟩:=h
 rw [ct] at hsz
 obtain ⟨l⟩:=vs
 have hcs:(Value.agg (⟨l⟩:Array Value)).cells.toList=l:=by simp [Value.cells]
 rw [hcs] at hfu
 obtain ⟨y,h1,h2,h3⟩:=open_four D (by simpa using hsz) hfu
 exact ⟨y,by rw [h1],h2,h3⟩
end
theorem opTypes:OpTypes Tryz.prog 39 :=
 ⟨_,3,27,5,9,Tryz.underlying39,by kernel_rfl,Tryz.underlying3,Tryz.underlying27,Tryz.underlying5,by kernel_rfl,Tryz.underlying9,by kernel_rfl,by kernel_rfl,by kernel_rfl,by kernel_rfl⟩
end Pg
end Go.Proofs.YtcockldefmmhbaaGreatDoor
set_option linter.unusedVariables false
set_option linter.unusedSimpArgs false
set_option maxRecDepth 100000
namespace Go.Proofs.YtcockldefmmhbaaGreatDoor
open Go.ChangeShapes Go.WideShapes Go.ChangeAt Go.RowKit Go.Mtl Go.Lib
namespace Pg
open MemM (Ms lookV)
open AutM (Ke)
open Me (ptr)
open Tb (TAt)
section
variable {b:Bs} {W w':World} {Om Ot K X X':Nat->Prop} {pv lv kv:Value} {S S':Sh} {r r':Rn} {g:Nat} {gs:List Nat} {rs:List Rn}
theorem SR.only (H:SR b Om Ot K pv S W) (ho:Only X W w') (hd:∀ j,X j->¬ Own Om Ot b.B b.rm pv j/\¬ K j/\b.w0.heap.size<=j):SR b Om Ot K pv S w' :=
 {mem:=H.mem.far ho fun j hj e=>(hd j e).1 (.inl hj),tab:=H.tab.far ho fun j hj e=>(hd j e).1 (.inr (.inl hj)),blk:=H.blk.only ho fun e=>(hd _ e).1 (.inr (.inr (.inl rfl)))
  map:=H.map.only ho (fun e=>(hd _ e).1 (.inr (.inr (.inr (.inl rfl))))) fun j hj e=>(hd j e).2.1 hj
  pts:=row_keep H.pts fun g e=>ho.block g (H.pts.lt g e).2 fun h=>(hd _ h).1 (.inr (.inr (.inr (.inr e))))
  bel:=H.bel.trans (ho.below (fun j hj=>(hd j hj).2.2) H.bel.size)
  nm:=H.nm,nt:=H.nt,nb:=H.nb,nr:=H.nr,dmt:=H.dmt,dm:=H.dm,dt:=H.dt,br:=H.br,dp:=H.dp
  dk:=fun j hj=>⟨(H.dk j hj).1,Nat.lt_of_lt_of_le (H.dk j hj).2 ho.size⟩ }
theorem RB.only (H:RB b Om Ot K pv g lv kv r W) (ho:Only X W w') (hg : ¬ X g) (hk:∀ j,K j->¬ X j):RB b Om Ot K pv g lv kv r w' :=
 ⟨H.run.only ho hg,H.lis.only ho hk,H.kes.only ho hk,H.ng,H.dg,H.nk⟩
theorem RA.only (H:RA b Om Ot K pv g r W) (ho:Only X W w') (hg : ¬ X g) (hk:∀ j,K j->¬ X j):RA b Om Ot K pv g r w':=by
 obtain ⟨lv,kv,h⟩:=H
 exact ⟨lv,kv,h.only ho hg hk⟩
structure Lw (b:Bs) (S:Sh) (gs:List Nat) (rs:List Rn) (X:Nat->Prop) (W:World):Prop where
 ex:∃ Om Ot K pv,SR b Om Ot K pv S W/\(∀ (i g:Nat) (r:Rn),gs[i]? = some g->rs[i]? = some r->RA b Om Ot K pv g r W)/\(∀ j,X j->¬ Own Om Ot b.B b.rm pv j/\¬ K j)
 ln:gs.length=rs.length
 nd:gs.Nodup
 gx:∀ g ∈ gs,g < W.heap.size/\¬ X g
 xx:∀ j,X j->b.w0.heap.size<=j/\j < W.heap.size
def Away (b:Bs) (X:Nat->Prop) (j:Nat):Prop:=b.w0.heap.size<=j/\¬ X j
theorem Lw.size (H:Lw b S gs rs X W):b.w0.heap.size<=W.heap.size:=by obtain ⟨_,_,_,_,h,_⟩:=H.ex;exact h.bel.size
theorem Lw.bel (H:Lw b S gs rs X W):Below b.w0.heap.size b.w0 W:=by obtain ⟨_,_,_,_,h,_⟩:=H.ex;exact h.bel
theorem Lw.ok (H:Lw b S gs rs X W):MemM.Ok S.ms/\TabM.Oks S.fs/\KeyM.isPow (b.C.n:Int)=true:=by obtain ⟨_,_,_,_,h,_⟩:=H.ex;exact ⟨h.mem.2,h.tab.2.1,h.tab.2.2⟩
theorem Lw.turn (H:Lw b S gs rs X W) (ho:Only X W w') (hX:∀ j,X' j->X j\/W.heap.size<=j/\j < w'.heap.size):Lw b S gs rs X' w':=by
 obtain ⟨Om,Ot,K,pv,h1,h2,h3⟩:=H.ex
 have hd:∀ j,X j->¬ Own Om Ot b.B b.rm pv j/\¬ K j/\b.w0.heap.size<=j:=fun j hj=>⟨(h3 j hj).1,(h3 j hj).2,(H.xx j hj).1⟩
 refine ⟨⟨Om,Ot,K,pv,h1.only ho hd,fun i g r hg hr=>(h2 i g r hg hr).only ho (H.gx g (List.mem_of_getElem? hg)).2 fun j hj e=>(hd j e).2.1 hj,fun j hj=>(hX j hj).elim (h3 j) fun hj=>⟨fun e=>by have:=h1.lt e;omega,fun e=>by have:=(h1.dk j e).2;omega⟩⟩,
  H.ln,H.nd,fun g hg=>⟨Nat.lt_of_lt_of_le (H.gx g hg).1 ho.size,fun e=>(hX g e).elim (H.gx g hg).2 fun e=>by have:=(H.gx g hg).1;omega⟩,fun j hj=>(hX j hj).elim (fun e=>⟨(H.xx j e).1,Nat.lt_of_lt_of_le (H.xx j e).2 ho.size⟩) fun e=>⟨Nat.le_trans H.size e.1,e.2⟩⟩
theorem Lw.next (H:Lw b S gs rs X W) (hb:Below W.heap.size W w'):Lw b S gs rs X w':=H.turn (X':=X) (Only.of_below hb) fun j h=>.inl h
theorem Lw.of_sr {w0:World} {C:Cf} {B mb tb rm:Nat} (h:SR (bs w0 C B mb tb rm) Om Ot K pv S W):Lw (bs w0 C B mb tb rm) S [] [] (fun _=>False) W :=
 ⟨⟨Om,Ot,K,pv,h,fun i g r hg=>by simp at hg,fun j hj=>hj.elim⟩,rfl,List.nodup_nil,fun g hg=>absurd hg List.not_mem_nil,fun j hj=>hj.elim⟩
theorem get_add {α:Type} {l:List α} {x y:α} {i:Nat} (h:(l ++ [x])[i]? = some y):l[i]? = some y\/i=l.length/\y=x:=by
 rcases Nat.lt_or_ge i l.length with hl | hl
 ·rw [List.getElem?_append_left hl] at h;exact .inl h
 ·rw [List.getElem?_append_right hl] at h
  have hj:i - l.length < [x].length:=(List.getElem?_eq_some_iff.1 h).1
  have:i=l.length:=by simp at hj;omega
  subst this
  simp at h
  exact .inr ⟨rfl,h.symm⟩
theorem Lw.begin_ (H:Lw b S gs rs X W) (t op:Int) (ht:0<=t) (n:Int) (A:Option Addr) (l c:Nat) (s:ByteArray) (kd:Int) (he:EnvB b.w0) (bs:List UInt8) (hb:Bts W W.heap.size A l bs) (hc:l<=c) (hm:c<=9223372036854775807) (hs:s.size<=maxLen) :
  Calls Tryz.prog 11 #[ptr b.B,.int .i64 t,.int .i64 op,.agg (opc kd n A l c s)] W fun e w'=>∃ g,e = .returned (ptr g)/\Lw b S (gs ++ [g]) (rs ++ [begR b.C t op kd n bs s.data.toList]) X w'/\Only (Away b X) W w':=by
 obtain ⟨Om,Ot,K,pv,h1,h2,h3⟩:=H.ex
 refine (begin_any h1 t op ht n A l c s kd he h1.tab.2.2 bs hb hc hm hs).mono ?_
 rintro e w' ⟨g,Om',Ot',K',pv',rfl,hg,k1,k2,k3,k4,k5,k6⟩
 have hlt:g < w'.heap.size:=by obtain ⟨_,_,h⟩:=k2;exact h.run.lt
 have hn:∀ j ∈ gs,j≠g:=fun j hj=>by have:=(H.gx j hj).1;omega
 refine ⟨g,rfl,⟨⟨Om',Ot',K',pv',k1,fun i g2 r2 hg2 hr2=>?_,fun j hj=>⟨fun e=>(k5 j e).elim (h3 j hj).1 fun e=>by have:=(H.xx j hj).2;omega,fun e=>(k6 j e).elim (h3 j hj).2 fun e=>by have:=(H.xx j hj).2;omega⟩⟩,by simp [H.ln],?_,fun j hj=>?_,fun j hj=>⟨(H.xx j hj).1,Nat.lt_of_lt_of_le (H.xx j hj).2 k4.size⟩⟩,k4.mono fun j hj=>⟨?_,fun e=>(h3 j e).1 hj⟩⟩
 ·rcases get_add hg2 with e | ⟨e1,rfl⟩
  ·rcases get_add hr2 with e2 | ⟨e2,_⟩
   ·exact k3 _ _ (h2 i g2 r2 e e2)
   ·have:=(List.getElem?_eq_some_iff.1 e).1;have:=H.ln;omega
  ·rcases get_add hr2 with e2 | ⟨_,rfl⟩
   ·have:=(List.getElem?_eq_some_iff.1 e2).1;have:=H.ln;omega
   ·exact k2
 ·exact List.nodup_append.2 ⟨H.nd,List.nodup_cons.2 ⟨List.not_mem_nil,List.nodup_nil⟩,fun a ha b hb e=>by rw [List.mem_singleton.1 hb] at e;exact hn a ha e⟩
 ·rcases List.mem_append.1 hj with hj | hj
  ·exact ⟨Nat.lt_of_lt_of_le (H.gx j hj).1 k4.size,(H.gx j hj).2⟩
  ·rw [List.mem_singleton.1 hj];exact ⟨hlt,fun e=>by have:=(H.xx g e).2;omega⟩
 ·rcases hj with h | h | rfl | rfl | h
  ·exact h1.nm j h
  ·exact h1.nt j h
  ·exact h1.nb
  ·exact h1.nr
  ·exact (h1.pts.lt j h).1
theorem Lw.put (H:Lw b S gs rs X W) {k:Nat} (hg:gs[k]? = some g) {Om Ot K:Nat->Prop} {pv lv kv:Value} (h1:SR b Om Ot K pv S W) (h2:∀ (i g:Nat) (r:Rn),gs[i]? = some g->rs[i]? = some r->RA b Om Ot K pv g r W) (h3:∀ j,X j->¬ Own Om Ot b.B b.rm pv j/\¬ K j)
  (h:RB b Om Ot K pv g lv kv r W) (hy:Y (b.at_ g W (Own Om Ot b.B b.rm pv) K) S' r' w'):Lw b S' gs (rs.set k r') X w'/\Only (Away b X) W w':=by
 obtain ⟨Om',Ot',K',pv',k1,k2,k3,k4,k5,k6⟩:=h1.done2 h hy
 have hkl:k < gs.length:=(List.getElem?_eq_some_iff.1 hg).1
 have hmem:=List.mem_of_getElem? hg
 refine ⟨⟨⟨Om',Ot',K',pv',k1,fun i g2 r2 hg2 hr2=>?_,fun j hj=>⟨fun e=>(k5 j e).elim (h3 j hj).1 fun e=>by have:=(H.xx j hj).2;omega,fun e=>(k6 j e).elim (h3 j hj).2 fun e=>by have:=(H.xx j hj).2;omega⟩⟩,by simp [H.ln],H.nd,fun j hj=>⟨Nat.lt_of_lt_of_le (H.gx j hj).1 k4.size,(H.gx j hj).2⟩,fun j hj=>⟨(H.xx j hj).1,Nat.lt_of_lt_of_le (H.xx j hj).2 k4.size⟩⟩,k4.mono fun j hj=>?_⟩
 ·by_cases e:i=k
  ·subst e
   rw [hg] at hg2
   obtain rfl:=Option.some.inj hg2
   rw [List.getElem?_set_self (by rw [← H.ln];exact hkl)] at hr2
   obtain rfl:=Option.some.inj hr2
   exact k2
  ·rw [List.getElem?_set_ne (fun h=>e h.symm)] at hr2
   have hne:g2≠g:=fun e2=>by
    have hil:i < gs.length:=(List.getElem?_eq_some_iff.1 hg2).1
    exact e ((List.getElem?_inj hil H.nd).1 (by rw [hg2,hg,e2]))
   exact k3 g2 r2 hne (h2 i g2 r2 hg2 hr2)
 ·rcases hj with hj | rfl
  ·refine ⟨?_,fun e=>(h3 j e).1 hj⟩
   rcases hj with h | h | rfl | rfl | h
   ·exact h1.nm j h
   ·exact h1.nt j h
   ·exact h1.nb
   ·exact h1.nr
   ·exact (h1.pts.lt j h).1
  ·exact ⟨h.ng,(H.gx _ hmem).2⟩
theorem Lw.run (H:Lw b S gs rs X W) {k:Nat} (hg:gs[k]? = some g):∃ r,rs[k]? = some r:=⟨_,List.getElem?_eq_getElem (by have:=(List.getElem?_eq_some_iff.1 hg).1;have:=H.ln;omega)⟩
theorem Lw.stepOf (H:Lw b S gs rs X W) {k:Nat} (hg:gs[k]? = some g) (hk:rs[k]? = some r) (hA:r.at_ ≠ .done->ActC r.at_ b.C b.w0) (hr:Rm 12 S) (hF:Fit b.C S r) (he:Env b.w0):Calls Tryz.prog 14 #[ptr g] W fun e w'=>e = .returned (.bool (canB S r))/\Lw b (stepA b.C S r).1 gs (rs.set k (stepA b.C S r).2) X w'/\Only (Away b X) W w':=by
 obtain ⟨Om,Ot,K,pv,h1,h2,h3⟩:=H.ex
 obtain ⟨lv,kv,h⟩:=h2 k g r hg hk
 refine (step_of (b:=b.at_ g W (Own Om Ot b.B b.rm pv) K) hA (h1.begin_ ⟨lv,kv,h⟩) hr hF he).mono ?_
 rintro e w' ⟨rfl,hy⟩
 exact ⟨rfl,H.put hg h1 h2 h3 h hy⟩
theorem Lw.done (H:Lw b S gs rs X W) {k:Nat} (hg:gs[k]? = some g) (hk:rs[k]? = some r):Calls Tryz.prog 17 #[ptr g] W fun e w'=>e = .returned (doneV r)/\Below W.heap.size W w':=by
 obtain ⟨Om,Ot,K,pv,h1,h2,h3⟩:=H.ex
 obtain ⟨lv,kv,h⟩:=h2 k g r hg hk
 exact done_any h
theorem Lw.gate (H:Lw b S gs rs X W) (he:Env b.w0):Calls Tryz.prog 16 #[ptr b.B] W fun e w'=>e = .returned (.agg (gtc (vG (lookV S.ms 0)) (kG (lookV S.ms 0)) (cG (lookV S.ms 0))))/\Below W.heap.size W w':=by
 obtain ⟨Om,Ot,K,pv,h1,h2,h3⟩:=H.ex
 exact gate_any h1 he
theorem Lw.log (H:Lw b S gs rs X W) (hl:S.ms.ls.length<=1000000000000):Calls Tryz.prog 20 #[ptr b.B] W (Me.Cloned W S.ms.ls):=by
 obtain ⟨Om,Ot,K,pv,h1,h2,h3⟩:=H.ex
 exact log_any h1 hl
theorem Lw.points (H:Lw b S gs rs X W) (hl:S.pts.length<=900000000000):Calls Tryz.prog 19 #[ptr b.B] W fun e w'=>∃ A c,e = .returned (.slice A (real S.pts).length c)/\w'.ownsRow W.heap.size 89 10 (.slice A (real S.pts).length c) (real S.pts).length (pcs (real S.pts))/\Below W.heap.size W w':=by
 obtain ⟨Om,Ot,K,pv,h1,h2,h3⟩:=H.ex
 exact points_any h1 hl
end
end Pg
end Go.Proofs.YtcockldefmmhbaaGreatDoor
set_option linter.unusedVariables false
set_option linter.unusedSimpArgs false
set_option maxRecDepth 100000
namespace Go.Proofs.YtcockldefmmhbaaGreatDoor
open Go.ChangeShapes Go.WideShapes Go.ChangeAt Go.RowKit Go.Mtl Go.Lib
namespace Pg
open MemM (Ms lookV loadS swapB swapS holdV lockB lockS unlockS touchS moreS)
open RulM (R)
open AutM (Ke)
open Me (ptr)
open Tb (TAt TM Fw)
structure EnvL (w:World):Prop where
 eb:EnvB w
 au:Au.Env w
theorem EnvL.below {w w':World} (h:EnvL w) (hb:Below w.heap.size w w'):EnvL w':=⟨h.eb.below hb,h.au.only (O:=fun _=>False) (Only.of_below hb) fun _ e=>e.elim⟩
theorem eq_self {t:TypeId} (h:Tryz.prog.keyTypeAt 5 t=true) (v:Value) (hf:v.formed Tryz.prog t=true) (hl:(Tryz.prog.keyLits 5 t v.cells.toList).isSome=true) (w:World):(Op.equalIn 10000 t v v).run Tryz.prog w = .ok true w:=by
 obtain ⟨l,hl⟩:=Option.isSome_iff_exists.1 hl
 obtain ⟨r,h1,h2⟩:=run_equalIn_deep 9995 5 t h w 5 5 v v l l hf hf hl hl
 rw [h2.2 rfl] at h1
 exact h1
theorem pt_key:Tryz.prog.keyTypeAt 5 89=true:=by kernel_rfl
theorem re_key:Tryz.prog.keyTypeAt 5 49=true:=by kernel_rfl
theorem ga_key:Tryz.prog.keyTypeAt 5 45=true:=by kernel_rfl
abbrev ptn (kd t o n:Int):Array Value:=#[.int .i64 kd,.int .i64 t,.int .i64 o,.int .u32 0,.int .u32 0,.int .u16 0,.int .u16 0,.int .u8 0,.int .i64 0,.int .i64 n]
theorem pt_1 (w:World):(Op.equalIn 10000 89 (.agg (ptn 1 3 7 0)) (.agg (ptn 1 3 7 0))).run Tryz.prog w = .ok true w:=eq_self pt_key _ (by kernel_rfl) (by kernel_rfl) w
theorem pt_2 (w:World):(Op.equalIn 10000 89 (.agg (ptn 5 3 7 5)) (.agg (ptn 5 3 7 5))).run Tryz.prog w = .ok true w:=eq_self pt_key _ (by kernel_rfl) (by kernel_rfl) w
theorem pt_3 (w:World):(Op.equalIn 10000 89 (.agg (ptn 8 3 7 5)) (.agg (ptn 8 3 7 5))).run Tryz.prog w = .ok true w:=eq_self pt_key _ (by kernel_rfl) (by kernel_rfl) w
theorem re_5 (w:World):(Op.equalIn 10000 49 (.agg (rpc 0 0 5)) (.agg (rpc 0 0 5))).run Tryz.prog w = .ok true w:=eq_self re_key _ (by kernel_rfl) (by kernel_rfl) w
theorem ga_5 (w:World):(Op.equalIn 10000 45 (.agg (gtc 0 0 5)) (.agg (gtc 0 0 5))).run Tryz.prog w = .ok true w:=eq_self ga_key _ (by kernel_rfl) (by kernel_rfl) w
theorem ga_0 (w:World):(Op.equalIn 10000 45 (.agg (gtc 0 0 0)) (.agg (gtc 0 0 0))).run Tryz.prog w = .ok true w:=eq_self ga_key _ (by kernel_rfl) (by kernel_rfl) w
abbrev c1:Cf:=⟨1,1,fun _=>0⟩
abbrev s0:Sh:=⟨MemM.newS 6 (((1:Nat):Int)+1),[],setL (fun _=>[]) 0 [],[]⟩
abbrev q0:Rn:={ rz 3 7 with z:=5,at_:=.readClock }
def s1:Sh:=(stepA c1 s0 q0).1
def q1:Rn:=(stepA c1 s0 q0).2
def s2:Sh:=(stepA c1 s1 q1).1
def q2:Rn:=(stepA c1 s1 q1).2
theorem can_0:canB s0 q0=true:=by decide
theorem can_1:canB s1 q1=true:=by decide
theorem can_2:canB s2 q2=false:=by decide
theorem same_2:stepA c1 s2 q2=(s2,q2):=by unfold stepA;rw [can_2];rfl
theorem done_2:doneV q2 = .tuple #[.agg (rpc 0 0 5),.bool true]:=by rfl
theorem pts_2:real s2.pts=[⟨1,3,7,k0,0,0⟩,⟨5,3,7,k0,0,5⟩,⟨8,3,7,k0,0,5⟩]:=by rfl
theorem log_2:s2.ms.ls=[⟨3,3,0⟩,⟨3,4,0⟩]:=by rfl
theorem gate_2:vG (lookV s2.ms 0)=0/\kG (lookV s2.ms 0)=0/\cG (lookV s2.ms 0)=5:=by decide
theorem w64_0:W64 0:=⟨by decide,by decide⟩
theorem fit_0:Fit c1 s0 q0:={ wf:=w64_0,wg:=w64_0,wc:=w64_0,k:=⟨by decide,by decide,by decide,by decide,by decide⟩,p:=⟨by decide,by decide,by decide,by decide,by decide,by decide,by decide⟩,st:=by decide,cn:=by decide,cT:=(fun _=>by show (-9223372036854775808:Int)<=0/\(0:Int)<=_;omega),z:=by decide,tt:=by decide,mr:=(fun h=>by rcases h with h | h <;> cases h),q:=(fun h=>by rcases h with h | h | h <;> cases h) }
theorem fit_1:Fit c1 s1 q1:={ wf:=w64_0,wg:=w64_0,wc:=w64_0,k:=fit_0.k,p:=fit_0.p,st:=by decide,cn:=by decide,cT:=fit_0.cT,z:=by decide,tt:=by decide,mr:=(fun h=>by rcases h with h | h <;> cases h),q:=(fun h=>by rcases h with h | h | h <;> cases h) }
theorem fit_2:Fit c1 s2 q2:={ wf:=w64_0,wg:=w64_0,wc:=w64_0,k:=fit_0.k,p:=fit_0.p,st:=by decide,cn:=by decide,cT:=fit_0.cT,z:=by decide,tt:=by decide,mr:=(fun h=>by rcases h with h | h <;> cases h),q:=(fun h=>by rcases h with h | h | h <;> cases h) }
theorem clock_c {w0:World} {C:Cf} (he:Env w0):ActC .readClock C w0:=fun {b W S r} hC hw ha H hr hF=>by
 rw [show actA b.C S r=readClockA S r by unfold actA;rw [ha],ha]
 exact readClock_act H hr hF (hw ▸ he)
theorem tick_c {w0:World} {C:Cf} (he:Env w0):ActC .tick C w0:=fun {b W S r} hC hw ha H hr hF=>by
 rw [show actA b.C S r=tickA S r by unfold actA;rw [ha],ha]
 exact tick_act H hr hF (hw ▸ he)
theorem rm_0:Rm 36 s0:=⟨by decide,by decide,by decide,by decide⟩
theorem rm_1:Rm 24 s1:=⟨by decide,by decide,by decide,by decide⟩
theorem rm_2:Rm 12 s2:=⟨by decide,by decide,by decide,by decide⟩
theorem lit_acs (w:World):Me.Acs (w.alloc (.cells #[.int .i64 3,.int .i64 3,.int .i64 0,.int .i64 3,.int .i64 4,.int .i64 0] 92)) (w.heap.size+1) (.slice (some ⟨w.heap.size,0,none⟩) 2 2) s2.ms.ls:=by
 rw [log_2]
 refine ⟨_,2,rfl,Nat.le_refl _,by omega,rfl,fun _=>⟨w.heap.size,0,rfl,by omega,fun j u hu=>?_⟩⟩
 rw [Nat.zero_add,cell_of_row _ _ j _ _ (0,0) (heap_alloc_new w _),List.getElem?_toArray]
 exact hu
set_option maxHeartbeats 4000000 in
theorem awake_any (w:World) (he:EnvL w):Calls Tryz.prog 10 #[] w fun e w'=>e = .returned (.bool true)/\Below w.heap.size w w':=by
 have HNEW:Hid (Calls Tryz.prog 7 #[.agg (Au.cfc ((1:Nat):Int) 1 (fun _=>0)),.slice none 0 0] w fun e w'=>∃ B mb tb rm Om Ot K,e = .returned (.tuple #[ptr B,.int .i64 0])/\SR (bs w c1 B mb tb rm) Om Ot K (.slice none 0 0) s0 w') :=
  new_ok he.au 1 1 (fun _=>0) none 0 0 [] rfl (Rds.nil w _) (fun r h=>absurd h List.not_mem_nil) (by decide) (by decide) (by omega)
 have HE:=Lib.hid he
 clear he
 go_enter Tryz.func10,Tryz.ntmps10
 go_wp2_with fail
 go_at_call 7
 refine (HNEW.out).mono ?_
 rintro e w1 ⟨B,mb,tb,rm,Om,Ot,K,rfl,hs⟩
 have H1:Hid (Lw (bs w c1 B mb tb rm) s0 [] [] (fun _=>False) w1):=Lw.of_sr hs
 clear hs HNEW
 go_wp2_with fail
 go_at_call 11
 refine (H1.out.begin_ 3 7 (by omega) 5 none 0 0 ByteArray.empty 2 HE.out.eb [] (Bts.empty _ _ _) (Nat.le_refl _) (by omega) (by decide)).mono ?_
 rintro e w2 ⟨g,rfl,hw,-⟩
 have H2:Hid (Lw (bs w c1 B mb tb rm) s0 [g] [q0] (fun _=>False) w2):=hw
 clear hw H1
 go_wp2_with fail
 go_at_call 14
 refine (H2.out.stepOf (k:=0) (g:=g) rfl rfl (fun _=>clock_c HE.out.eb.pg) (rm_0.mono (by omega)) fit_0 HE.out.eb.pg).mono ?_
 rintro e w3 ⟨he,hw,-⟩
 rw [can_0] at he
 subst he
 have H3:Hid (Lw (bs w c1 B mb tb rm) s1 [g] [q1] (fun _=>False) w3):=hw
 clear hw H2
 go_wp2_with fail
 go_at_call 14
 refine (H3.out.stepOf (k:=0) (g:=g) rfl rfl (fun _=>tick_c HE.out.eb.pg) (rm_1.mono (by omega)) fit_1 HE.out.eb.pg).mono ?_
 rintro e w4 ⟨he,hw,-⟩
 rw [can_1] at he
 subst he
 have H4:Hid (Lw (bs w c1 B mb tb rm) s2 [g] [q2] (fun _=>False) w4):=hw
 clear hw H3
 go_wp2_with fail
 go_at_call 14
 refine (H4.out.stepOf (k:=0) (g:=g) rfl rfl (fun h=>absurd rfl h) (rm_2) fit_2 HE.out.eb.pg).mono ?_
 rintro e w5 ⟨he,hw,-⟩
 rw [can_2] at he
 rw [show (bs w c1 B mb tb rm).C=c1 from rfl,same_2] at hw
 subst he
 have H5:Hid (Lw (bs w c1 B mb tb rm) s2 [g] [q2] (fun _=>False) w5):=hw
 clear hw H4
 go_wp2_with fail
 go_at_call 17
 refine (H5.out.done (k:=0) (g:=g) rfl rfl).mono ?_
 rintro e w6 ⟨he,hb⟩
 rw [done_2] at he
 subst he
 have H6:=Lib.hid (H5.out.next hb)
 have H6b:=Lib.hid (H6.out.next (below_box w6 (.cells (rpc 0 0 5) 49)))
 have HRP:=Lib.hid (Blk.box w6 (rpc 0 0 5) 49)
 clear hb H5
 go_wp2_with fail
 obtain ⟨W6,hW6⟩:∃ V,w6.alloc (.cells #[.int .i64 0,.int .i64 0,.int .i64 5] 49)=V:=⟨_,rfl⟩
 rw [hW6] at H6b HRP ⊢
 obtain ⟨gr,hgr⟩:∃ x,w6.heap.size=x:=⟨_,rfl⟩
 rw [hgr] at HRP
 try rw [hgr]
 clear hW6 hgr H6
 have HPT:=Lib.hid (H6b.out.points (by decide))
 rw [pts_2] at HPT
 go_at_call 19
 refine (HPT.out).mono ?_
 rintro e w7 ⟨A,c,rfl,hrow,hb⟩
 have H7:=Lib.hid (H6b.out.next hb)
 have HRP7:=Lib.hid (HRP.out.next hb)
 obtain ⟨gp,rfl⟩:∃ gp,A=some ⟨gp,0,none⟩:=by
  rcases hrow.2 with ⟨e,h0⟩ | ⟨g,cap,cur,e,_⟩
  ·simp at h0
  ·injection e with e;exact ⟨g,e⟩
 have hcap:3<=c/\c<=9223372036854775807:=by
  obtain ⟨A',c',e,h1,h2⟩:=row_form hrow
  injection e with _ _ e
  subst e
  exact ⟨h1,h2⟩
 obtain ⟨hc1,hc2⟩:=hcap
 clear hb H6b HRP HPT
 have p0:w7.cell? ⟨gp,0,none⟩=some (.int .i64 1):=(hrow.cellAt 0 (by decide)).trans rfl
 have p1:w7.cell? ⟨gp,1,none⟩=some (.int .i64 3):=(hrow.cellAt 1 (by decide)).trans rfl
 have p2:w7.cell? ⟨gp,2,none⟩=some (.int .i64 7):=(hrow.cellAt 2 (by decide)).trans rfl
 have p3:w7.cell? ⟨gp,3,none⟩=some (.int .u32 0):=(hrow.cellAt 3 (by decide)).trans rfl
 have p4:w7.cell? ⟨gp,4,none⟩=some (.int .u32 0):=(hrow.cellAt 4 (by decide)).trans rfl
 have p5:w7.cell? ⟨gp,5,none⟩=some (.int .u16 0):=(hrow.cellAt 5 (by decide)).trans rfl
 have p6:w7.cell? ⟨gp,6,none⟩=some (.int .u16 0):=(hrow.cellAt 6 (by decide)).trans rfl
 have p7:w7.cell? ⟨gp,7,none⟩=some (.int .u8 0):=(hrow.cellAt 7 (by decide)).trans rfl
 have p8:w7.cell? ⟨gp,8,none⟩=some (.int .i64 0):=(hrow.cellAt 8 (by decide)).trans rfl
 have p9:w7.cell? ⟨gp,9,none⟩=some (.int .i64 0):=(hrow.cellAt 9 (by decide)).trans rfl
 have p10:w7.cell? ⟨gp,10,none⟩=some (.int .i64 5):=(hrow.cellAt 10 (by decide)).trans rfl
 have p11:w7.cell? ⟨gp,11,none⟩=some (.int .i64 3):=(hrow.cellAt 11 (by decide)).trans rfl
 have p12:w7.cell? ⟨gp,12,none⟩=some (.int .i64 7):=(hrow.cellAt 12 (by decide)).trans rfl
 have p13:w7.cell? ⟨gp,13,none⟩=some (.int .u32 0):=(hrow.cellAt 13 (by decide)).trans rfl
 have p14:w7.cell? ⟨gp,14,none⟩=some (.int .u32 0):=(hrow.cellAt 14 (by decide)).trans rfl
 have p15:w7.cell? ⟨gp,15,none⟩=some (.int .u16 0):=(hrow.cellAt 15 (by decide)).trans rfl
 have p16:w7.cell? ⟨gp,16,none⟩=some (.int .u16 0):=(hrow.cellAt 16 (by decide)).trans rfl
 have p17:w7.cell? ⟨gp,17,none⟩=some (.int .u8 0):=(hrow.cellAt 17 (by decide)).trans rfl
 have p18:w7.cell? ⟨gp,18,none⟩=some (.int .i64 0):=(hrow.cellAt 18 (by decide)).trans rfl
 have p19:w7.cell? ⟨gp,19,none⟩=some (.int .i64 5):=(hrow.cellAt 19 (by decide)).trans rfl
 have p20:w7.cell? ⟨gp,20,none⟩=some (.int .i64 8):=(hrow.cellAt 20 (by decide)).trans rfl
 have p21:w7.cell? ⟨gp,21,none⟩=some (.int .i64 3):=(hrow.cellAt 21 (by decide)).trans rfl
 have p22:w7.cell? ⟨gp,22,none⟩=some (.int .i64 7):=(hrow.cellAt 22 (by decide)).trans rfl
 have p23:w7.cell? ⟨gp,23,none⟩=some (.int .u32 0):=(hrow.cellAt 23 (by decide)).trans rfl
 have p24:w7.cell? ⟨gp,24,none⟩=some (.int .u32 0):=(hrow.cellAt 24 (by decide)).trans rfl
 have p25:w7.cell? ⟨gp,25,none⟩=some (.int .u16 0):=(hrow.cellAt 25 (by decide)).trans rfl
 have p26:w7.cell? ⟨gp,26,none⟩=some (.int .u16 0):=(hrow.cellAt 26 (by decide)).trans rfl
 have p27:w7.cell? ⟨gp,27,none⟩=some (.int .u8 0):=(hrow.cellAt 27 (by decide)).trans rfl
 have p28:w7.cell? ⟨gp,28,none⟩=some (.int .i64 0):=(hrow.cellAt 28 (by decide)).trans rfl
 have p29:w7.cell? ⟨gp,29,none⟩=some (.int .i64 5):=(hrow.cellAt 29 (by decide)).trans rfl
 have y0:=HRP7.out.cell 0 _ rfl
 have y1:=HRP7.out.cell 1 _ rfl
 have y2:=HRP7.out.cell 2 _ rfl
 have e1:=pt_1
 have e2:=pt_2
 have e3:=pt_3
 have e4:=re_5
 clear hrow
 go_wp2_with fail
 go_at_call 20
 refine (H7.out.log (by decide)).mono ?_
 rintro e w8 ⟨v,rfl,h1,-,hb⟩
 obtain ⟨A2,c2,rfl,-,-⟩:=h1.len
 have H8:=Lib.hid (H7.out.next hb)
 have HL:=Lib.hid h1
 clear h1 hb H7 HRP7 p0 p1 p2 p3 p4 p5 p6 p7 p8 p9 p10 p11 p12 p13 p14 p15 p16 p17 p18 p19 p20 p21 p22 p23 p24 p25 p26 p27 p28 p29 y0 y1 y2 e1 e2 e3 e4
 go_wp2_with fail
 have hb9:=below_box w8 (.cells #[.int .i64 3,.int .i64 3,.int .i64 0,.int .i64 3,.int .i64 4,.int .i64 0] 92)
 have HSM:=Lib.hid (Me.same_true _ _ s2.ms.ls _ (HL.out.next hb9) ((lit_acs w8).more (by simp)))
 have H9:=Lib.hid (H8.out.next hb9)
 clear hb9 HL H8
 go_at_call 35
 refine (HSM.out).mono ?_
 rintro e w9 ⟨rfl,q,rfl⟩
 have H10:=Lib.hid (H9.out.next ((Below.refl _ _).drews q))
 clear HSM H9
 go_wp2_with fail
 have HGA:=Lib.hid (H10.out.gate HE.out.eb.pg)
 rw [gate_2.1,gate_2.2.1,gate_2.2.2] at HGA
 have e5:=ga_5
 go_at_call 16
 refine (HGA.out).mono ?_
 rintro e w11 ⟨rfl,hb⟩
 have H11:=Lib.hid (H10.out.next hb)
 clear hb HGA H10
 go_wp2_with fail
 go_ret
 exact ⟨rfl,H11.out.bel⟩
end Pg
end Go.Proofs.YtcockldefmmhbaaGreatDoor
set_option linter.unusedVariables false
set_option linter.unusedSimpArgs false
set_option maxRecDepth 100000
namespace Go.Proofs.YtcockldefmmhbaaGreatDoor
open Go.ChangeShapes Go.WideShapes Go.ChangeAt Go.RowKit Go.Mtl Go.Lib
namespace Pg
open MemM (Ms lookV loadS swapB swapS holdV lockB lockS unlockS touchS moreS)
open RulM (R)
open AutM (Ke)
open Me (ptr)
open Tb (TAt TM Fw)
def shortO (x:Ov):Ov:={ x with l:=if 1600 < x.l then 1600 else x.l,bs:=if 1600 < x.l then x.bs.take 1600 else x.bs,s:=if 4200 < x.s.size then x.s.extract 0 4200 else x.s }
set_option maxHeartbeats 2000000 in
theorem short_any (x:Ov) (hx:x.Ok) (w:World):Calls Tryz.prog 12 #[.agg (ovc x)] w fun e w'=>e = .returned (.agg (ovc (shortO x)))/\Below w.heap.size w w':=by
 obtain ⟨kd,n,A,l,c,bs,s⟩:=x
 have hl:l<=c:=hx.l
 have hc:c<=9223372036854775807:=hx.c
 have hs:s.size<=9223372036854775807:=hx.s
 clear hx
 unfold shortO ovc opc
 dsimp only
 by_cases h1:1600 < l
 ·by_cases h2:4200 < s.size
  ·have HB:=Lib.hid ((below_box w (.cells #[.int .i64 kd,.int .i64 n,.slice A l c,.string s] 39)))
   rw [if_pos h1,if_pos h2]
   have d1:decide ((l:Int) > 1600)=true:=by simp;omega
   have d2:decide ((s.size:Int) > 4200)=true:=by simp;omega
   go_enter Tryz.func12,Tryz.ntmps12
   go_wp2_with fail
   have HR:=Blk.box1 w (.cells #[.int .i64 kd,.int .i64 n,.slice A 1600 c,.string (s.extract 0 4200)] 39) #[.int .i64 kd,.int .i64 n,.slice A 1600 c,.string (s.extract 0 4200)] 39
   have r0:=HR.cell 0 _ rfl
   have r1:=HR.cell 1 _ rfl
   have r2:=HR.cell 2 _ rfl
   have r3:=HR.cell 3 _ rfl
   exact bodyPost_ret (v:=.agg #[.int .i64 kd,.int .i64 n,.slice A 1600 c,.string (s.extract 0 4200)]) (by simp [results,Tryz.results12,go_sem,r0,r1,r2,r3]) rfl ⟨rfl,((Below.refl _ w).alloc (Nat.le_refl _) (.cells #[.int .i64 kd,.int .i64 n,.slice A 1600 c,.string (s.extract 0 4200)] 39)).alloc (by simp) _⟩
  ·have HB:=Lib.hid ((below_box w (.cells #[.int .i64 kd,.int .i64 n,.slice A l c,.string s] 39)))
   rw [if_pos h1,if_neg h2]
   have d1:decide ((l:Int) > 1600)=true:=by simp;omega
   have d2:decide ((s.size:Int) > 4200)=false:=by simp;omega
   go_enter Tryz.func12,Tryz.ntmps12
   go_wp2_with fail
   have HR:=Blk.box1 w (.cells #[.int .i64 kd,.int .i64 n,.slice A 1600 c,.string s] 39) #[.int .i64 kd,.int .i64 n,.slice A 1600 c,.string s] 39
   have r0:=HR.cell 0 _ rfl
   have r1:=HR.cell 1 _ rfl
   have r2:=HR.cell 2 _ rfl
   have r3:=HR.cell 3 _ rfl
   exact bodyPost_ret (v:=.agg #[.int .i64 kd,.int .i64 n,.slice A 1600 c,.string s]) (by simp [results,Tryz.results12,go_sem,r0,r1,r2,r3]) rfl ⟨rfl,((Below.refl _ w).alloc (Nat.le_refl _) (.cells #[.int .i64 kd,.int .i64 n,.slice A 1600 c,.string s] 39)).alloc (by simp) _⟩
 ·by_cases h2:4200 < s.size
  ·have HB:=Lib.hid ((below_box w (.cells #[.int .i64 kd,.int .i64 n,.slice A l c,.string s] 39)))
   rw [if_neg h1,if_pos h2]
   have d1:decide ((l:Int) > 1600)=false:=by simp;omega
   have d2:decide ((s.size:Int) > 4200)=true:=by simp;omega
   go_enter Tryz.func12,Tryz.ntmps12
   go_wp2_with fail
   have HR:=Blk.box1 w (.cells #[.int .i64 kd,.int .i64 n,.slice A l c,.string (s.extract 0 4200)] 39) #[.int .i64 kd,.int .i64 n,.slice A l c,.string (s.extract 0 4200)] 39
   have r0:=HR.cell 0 _ rfl
   have r1:=HR.cell 1 _ rfl
   have r2:=HR.cell 2 _ rfl
   have r3:=HR.cell 3 _ rfl
   exact bodyPost_ret (v:=.agg #[.int .i64 kd,.int .i64 n,.slice A l c,.string (s.extract 0 4200)]) (by simp [results,Tryz.results12,go_sem,r0,r1,r2,r3]) rfl ⟨rfl,((Below.refl _ w).alloc (Nat.le_refl _) (.cells #[.int .i64 kd,.int .i64 n,.slice A l c,.string (s.extract 0 4200)] 39)).alloc (by simp) _⟩
  ·have HB:=Lib.hid ((below_box w (.cells #[.int .i64 kd,.int .i64 n,.slice A l c,.string s] 39)))
   rw [if_neg h1,if_neg h2]
   have d1:decide ((l:Int) > 1600)=false:=by simp;omega
   have d2:decide ((s.size:Int) > 4200)=false:=by simp;omega
   go_enter Tryz.func12,Tryz.ntmps12
   go_wp2_with fail
   have HR:=Blk.box1 w (.cells #[.int .i64 kd,.int .i64 n,.slice A l c,.string s] 39) #[.int .i64 kd,.int .i64 n,.slice A l c,.string s] 39
   have r0:=HR.cell 0 _ rfl
   have r1:=HR.cell 1 _ rfl
   have r2:=HR.cell 2 _ rfl
   have r3:=HR.cell 3 _ rfl
   exact bodyPost_ret (v:=.agg #[.int .i64 kd,.int .i64 n,.slice A l c,.string s]) (by simp [results,Tryz.results12,go_sem,r0,r1,r2,r3]) rfl ⟨rfl,((Below.refl _ w).alloc (Nat.le_refl _) (.cells #[.int .i64 kd,.int .i64 n,.slice A l c,.string s] 39)).alloc (by simp) _⟩
theorem op_size {x:Ov}:(Tryz.prog.info? 39).map (·.size)=some (#[.int .i64 x.kd,.int .i64 x.n,.slice x.A x.l x.c,.string x.s]:Array Value).size:=(by kernel_rfl:(Tryz.prog.info? 39).map (·.size)=some 4)
set_option maxHeartbeats 4000000 in
theorem progNone_walk (x:Ov) (t v:Int) (w:World) (he:EnvL w) (h:x.Ok/\Bts w w.heap.size x.A x.l x.bs) (_ht : -9223372036854775808<=t/\t<=9223372036854775807) (_hv : -9223372036854775808<=v/\v<=9223372036854775807):Calls Tryz.prog 5 #[.agg (ovc x),.int .i64 t,.int .i64 v] w fun e w'=>e = .returned (.bool true)/\Below w.heap.size w w':=by
 obtain ⟨hx,hb⟩:=h
 by_cases ht0:t < 0
 ·have HSH:=Lib.hid (short_any x hx)
  have HOK:=Lib.hid hx
  have HBT:=Lib.hid hb
  have HE:=Lib.hid he
  have HX:=Lib.hid (Blk.box w #[.int .i64 x.kd,.int .i64 x.n,.slice x.A x.l x.c,.string x.s] 39)
  have HB:=Lib.hid (below_box w (.cells #[.int .i64 x.kd,.int .i64 x.n,.slice x.A x.l x.c,.string x.s] 39))
  have dt:decide (t < 0)=true:=by simp;omega
  have HT:Hid (t < 0):=ht0
  clear hx hb he
  unfold ovc opc
  go_enter Tryz.func5,Tryz.ntmps5
  go_wp2_with (refine wpList_load_row rfl 39 (.tmp 3) rfl w.heap.size rfl _ #[.int .i64 x.kd,.int .i64 x.n,.slice x.A x.l x.c,.string x.s] _ _ HX.out Tryz.underlying39 rfl op_size ?_)
  go_at_call 12
  refine (HSH.out _).mono ?_
  rintro e w1 ⟨rfl,hb⟩
  have HX1:=Lib.hid (HX.out.next hb)
  have HB1:=Lib.hid (HB.out.trans (hb.mono HB.out.size))
  clear hb HX HB HSH
  unfold ovc opc
  go_wp2_with fail
  go_at_call 11
  refine (begin_nil _ t 0 (shortO x).kd (shortO x).n (shortO x).A (shortO x).l (shortO x).c (shortO x).s).mono ?_
  rintro e w2 ⟨rfl,hb⟩
  have HX2:=Lib.hid (HX1.out.next hb)
  have HB2:=Lib.hid (HB1.out.trans (hb.mono HB1.out.size))
  clear hb HX1 HB1
  go_wp2_with fail
  go_at_call 17
  refine (done_nil _).mono ?_
  rintro e w3 ⟨rfl,hb⟩
  have hb4:=hb.trans ((below_box w3 (.cells #[.int .i64 0,.int .i64 0,.int .i64 0] 49)).mono hb.size)
  have HX4:=Lib.hid (HX2.out.next hb4)
  have HB4:=Lib.hid (HB2.out.trans (hb4.mono HB2.out.size))
  clear hb hb4 HX2 HB2
  go_wp2_with fail
  generalize w3.alloc (.cells #[.int .i64 0,.int .i64 0,.int .i64 0] 49)=w4 at *
  try generalize w3.heap.size=gr at *
  have HE4:=Lib.hid (HE.out.below HB4.out)
  have HNEW:Hid (Calls Tryz.prog 7 #[.agg (Au.cfc ((1:Nat):Int) 1 (fun _=>0)),.slice none 0 0] w4 fun e w'=>∃ B mb tb rm Om Ot K,e = .returned (.tuple #[ptr B,.int .i64 0])/\SR (bs w4 c1 B mb tb rm) Om Ot K (.slice none 0 0) s0 w') :=
   new_ok HE4.out.au 1 1 (fun _=>0) none 0 0 [] rfl (Rds.nil w4 _) (fun r h=>absurd h List.not_mem_nil) (by decide) (by decide) (by omega)
  go_at_call 7
  refine (HNEW.out).mono ?_
  rintro e w5 ⟨B,mb,tb,rm,Om,Ot,K,rfl,hs⟩
  have H5:Hid (Lw (bs w4 c1 B mb tb rm) s0 [] [] (fun _=>False) w5):=Lw.of_sr hs
  have HX5:=Lib.hid (HX4.out.only (Only.of_below (O:=fun _=>False) (hs.bel)) (fun e=>e))
  clear hs HNEW HX4
  go_wp2_with fail
  have HAW:=Lib.hid (awake_any w5 (HE4.out.below H5.out.bel))
  go_at_call 10
  refine (HAW.out).mono ?_
  rintro e w6 ⟨rfl,hb⟩
  have H6:=Lib.hid (H5.out.next hb)
  have HX6:=Lib.hid (HX5.out.next hb)
  clear hb H5 HX5 HAW
  go_wp2_with fail
  go_at_call 14
  refine (step_nil _).mono ?_
  rintro e w7 ⟨rfl,rfl⟩
  go_wp2_with fail
  go_at_call 18
  refine (blocked_nil _).mono ?_
  rintro e w7 ⟨rfl,hb⟩
  have H7:=Lib.hid (H6.out.next hb)
  have HX7:=Lib.hid (HX6.out.next hb)
  clear hb H6 HX6
  go_wp2_with fail
  go_at_call 19
  refine (points_nil _).mono ?_
  rintro e w8 ⟨rfl,rfl⟩
  go_wp2_with fail
  go_at_call 20
  refine (log_nil _).mono ?_
  rintro e w8 ⟨rfl,rfl⟩
  go_wp2_with fail
  have e0:=ga_0
  go_at_call 16
  refine (gate_nil _).mono ?_
  rintro e w8 ⟨rfl,hb⟩
  have H8:=Lib.hid (H7.out.next hb)
  have HX8:=Lib.hid (HX7.out.next hb)
  clear hb H7 HX7
  go_wp2_with fail
  go_at_call 21
  refine (stat_nil v _).mono ?_
  rintro e w9 ⟨rfl,rfl⟩
  go_wp2_with fail
  have x0:=HX8.out.cell 0 _ rfl
  have x1:=HX8.out.cell 1 _ rfl
  have x2:=HX8.out.cell 2 _ rfl
  have x3:=HX8.out.cell 3 _ rfl
  go_at_call 15
  refine (keys_nil _).mono ?_
  rintro e w9 ⟨rfl,rfl⟩
  go_wp2_with fail
  obtain ⟨Om',Ot',K',pv',hsr,-,-⟩:=H8.out.ex
  have HBG:=Lib.hid (begin_neg hsr t 0 x.kd x.n HT.out x.A x.l x.c x.s)
  clear hsr
  go_at_call 11
  refine (HBG.out).mono ?_
  rintro e w9 ⟨rfl,hb⟩
  have H9:=Lib.hid (H8.out.next hb)
  clear hb HBG
  go_wp2_with fail
  go_ret
  exact ⟨rfl,HB4.out.trans (H9.out.bel.mono HB4.out.size)⟩
 have ht0:0<=t:=by omega
 have HSH:=Lib.hid (short_any x hx)
 have HOK:=Lib.hid hx
 have HBT:=Lib.hid hb
 have HE:=Lib.hid he
 have HX:=Lib.hid (Blk.box w #[.int .i64 x.kd,.int .i64 x.n,.slice x.A x.l x.c,.string x.s] 39)
 have HB:=Lib.hid (below_box w (.cells #[.int .i64 x.kd,.int .i64 x.n,.slice x.A x.l x.c,.string x.s] 39))
 have dt:decide (t < 0)=false:=by simp;omega
 have HT:Hid (0<=t):=ht0
 clear hx hb he
 unfold ovc opc
 go_enter Tryz.func5,Tryz.ntmps5
 go_wp2_with (refine wpList_load_row rfl 39 (.tmp 3) rfl w.heap.size rfl _ #[.int .i64 x.kd,.int .i64 x.n,.slice x.A x.l x.c,.string x.s] _ _ HX.out Tryz.underlying39 rfl op_size ?_)
 go_at_call 12
 refine (HSH.out _).mono ?_
 rintro e w1 ⟨rfl,hb⟩
 have HX1:=Lib.hid (HX.out.next hb)
 have HB1:=Lib.hid (HB.out.trans (hb.mono HB.out.size))
 clear hb HX HB HSH
 unfold ovc opc
 go_wp2_with fail
 go_at_call 11
 refine (begin_nil _ t 0 (shortO x).kd (shortO x).n (shortO x).A (shortO x).l (shortO x).c (shortO x).s).mono ?_
 rintro e w2 ⟨rfl,hb⟩
 have HX2:=Lib.hid (HX1.out.next hb)
 have HB2:=Lib.hid (HB1.out.trans (hb.mono HB1.out.size))
 clear hb HX1 HB1
 go_wp2_with fail
 go_at_call 17
 refine (done_nil _).mono ?_
 rintro e w3 ⟨rfl,hb⟩
 have hb4:=hb.trans ((below_box w3 (.cells #[.int .i64 0,.int .i64 0,.int .i64 0] 49)).mono hb.size)
 have HX4:=Lib.hid (HX2.out.next hb4)
 have HB4:=Lib.hid (HB2.out.trans (hb4.mono HB2.out.size))
 clear hb hb4 HX2 HB2
 go_wp2_with fail
 generalize w3.alloc (.cells #[.int .i64 0,.int .i64 0,.int .i64 0] 49)=w4 at *
 try generalize w3.heap.size=gr at *
 have HE4:=Lib.hid (HE.out.below HB4.out)
 have HNEW:Hid (Calls Tryz.prog 7 #[.agg (Au.cfc ((1:Nat):Int) 1 (fun _=>0)),.slice none 0 0] w4 fun e w'=>∃ B mb tb rm Om Ot K,e = .returned (.tuple #[ptr B,.int .i64 0])/\SR (bs w4 c1 B mb tb rm) Om Ot K (.slice none 0 0) s0 w') :=
  new_ok HE4.out.au 1 1 (fun _=>0) none 0 0 [] rfl (Rds.nil w4 _) (fun r h=>absurd h List.not_mem_nil) (by decide) (by decide) (by omega)
 go_at_call 7
 refine (HNEW.out).mono ?_
 rintro e w5 ⟨B,mb,tb,rm,Om,Ot,K,rfl,hs⟩
 have H5:Hid (Lw (bs w4 c1 B mb tb rm) s0 [] [] (fun _=>False) w5):=Lw.of_sr hs
 have HX5:=Lib.hid (HX4.out.only (Only.of_below (O:=fun _=>False) (hs.bel)) (fun e=>e))
 clear hs HNEW HX4
 go_wp2_with fail
 have HAW:=Lib.hid (awake_any w5 (HE4.out.below H5.out.bel))
 go_at_call 10
 refine (HAW.out).mono ?_
 rintro e w6 ⟨rfl,hb⟩
 have H6:=Lib.hid (H5.out.next hb)
 have HX6:=Lib.hid (HX5.out.next hb)
 clear hb H5 HX5 HAW
 go_wp2_with fail
 go_at_call 14
 refine (step_nil _).mono ?_
 rintro e w7 ⟨rfl,rfl⟩
 go_wp2_with fail
 go_at_call 18
 refine (blocked_nil _).mono ?_
 rintro e w7 ⟨rfl,hb⟩
 have H7:=Lib.hid (H6.out.next hb)
 have HX7:=Lib.hid (HX6.out.next hb)
 clear hb H6 HX6
 go_wp2_with fail
 go_at_call 19
 refine (points_nil _).mono ?_
 rintro e w8 ⟨rfl,rfl⟩
 go_wp2_with fail
 go_at_call 20
 refine (log_nil _).mono ?_
 rintro e w8 ⟨rfl,rfl⟩
 go_wp2_with fail
 have e0:=ga_0
 go_at_call 16
 refine (gate_nil _).mono ?_
 rintro e w8 ⟨rfl,hb⟩
 have H8:=Lib.hid (H7.out.next hb)
 have HX8:=Lib.hid (HX7.out.next hb)
 clear hb H7 HX7
 go_wp2_with fail
 go_at_call 21
 refine (stat_nil v _).mono ?_
 rintro e w9 ⟨rfl,rfl⟩
 go_wp2_with fail
 have x0:=HX8.out.cell 0 _ rfl
 have x1:=HX8.out.cell 1 _ rfl
 have x2:=HX8.out.cell 2 _ rfl
 have x3:=HX8.out.cell 3 _ rfl
 go_at_call 15
 refine (keys_nil _).mono ?_
 rintro e w9 ⟨rfl,rfl⟩
 go_wp2_with fail
 go_at_call 11
 refine (H8.out.begin_ t 0 HT.out x.n x.A x.l x.c x.s x.kd HE4.out.eb x.bs ((HBT.out.below HB4.out).more HB4.out.size |>.below H8.out.bel |>.more H8.out.size) HOK.out.l HOK.out.c HOK.out.s).mono ?_
 rintro e w9 ⟨g,rfl,hw,-⟩
 have H9:=Lib.hid hw
 clear hw
 go_wp2_with fail
 go_ret
 exact ⟨rfl,HB4.out.trans (H9.out.bel.mono HB4.out.size)⟩
end Pg
end Go.Proofs.YtcockldefmmhbaaGreatDoor
