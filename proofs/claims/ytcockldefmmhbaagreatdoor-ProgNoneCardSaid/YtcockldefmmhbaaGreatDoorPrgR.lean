import Derived.Test.YtcockldefmmhbaaGreatDoorSq
import Derived.Test.YtcockldefmmhbaaGreatDoorJ49
import Derived.Shelf.Abstract
set_option linter.unusedVariables false
set_option linter.unusedSimpArgs false
set_option maxRecDepth 100000
namespace Go.Proofs.YtcockldefmmhbaaGreatDoor
open Go.ChangeShapes Go.WideShapes Go.ChangeAt Go.RowKit Go.Mtl Go.Lib
namespace Pg
open MemM (Ms lookV loadS swapB swapS holdV lockB lockS unlockS touchS moreS)
open RulM (R)
open AutM (Ke)
open Me (ptr)
open Tb (TAt TM Fw)
section
variable {b:Bs} {W:World} {S:Sh} {r:Rn}
def ActC (a:At) (C:Cf) (w0:World):Prop:=∀ {b:Bs} {W:World} {S:Sh} {r:Rn},b.C=C->b.w0=w0->r.at_=a->Y b S r W->Rm 9 S->Fit b.C S r->Calls Tryz.prog (fid r.at_) #[ptr b.g] W (Yd b U (actA b.C S r).1 (actA b.C S r).2)
theorem func_nil (n:Nat) (w:World):(binOp .eql 93 (fnV n) .nilFunc).run Tryz.prog w = .ok (.bool false) w:=by kernel_rfl
theorem nil_nil (w:World):(binOp .eql 93 .nilFunc .nilFunc).run Tryz.prog w = .ok (.bool true) w:=by kernel_rfl
theorem next_is {a:At} (h:a ≠ .done):nextV a=fnV (fid a):=by cases a <;> first | rfl | exact absurd rfl h
theorem fid_enters (a:At) (h:a ≠ .done):Enters Tryz.prog (fid a):=by
 cases a with
 | find=>exact enters_of Tryz.func70 (by decide) rfl
 | release=>exact enters_of Tryz.func108 (by decide) rfl
 | load=>exact enters_of Tryz.func152 (by decide) rfl
 | judge=>exact enters_of Tryz.func206 (by decide) rfl
 | advance=>exact enters_of Tryz.func259 (by decide) rfl
 | sure=>exact enters_of Tryz.func258 (by decide) rfl
 | look=>exact enters_of Tryz.func256 (by decide) rfl
 | again=>exact enters_of Tryz.func67 (by decide) rfl
 | over=>exact enters_of Tryz.func105 (by decide) rfl
 | kill=>exact enters_of Tryz.func115 (by decide) rfl
 | less=>exact enters_of Tryz.func171 (by decide) rfl
 | leave=>exact enters_of Tryz.func223 (by decide) rfl
 | absent=>exact enters_of Tryz.func106 (by decide) rfl
 | enter=>exact enters_of Tryz.func148 (by decide) rfl
 | unlock=>exact enters_of Tryz.func202 (by decide) rfl
 | malformed=>exact enters_of Tryz.func64 (by decide) rfl
 | count=>exact enters_of Tryz.func99 (by decide) rfl
 | add=>exact enters_of Tryz.func142 (by decide) rfl
 | readClock=>exact enters_of Tryz.func38 (by decide) rfl
 | tick=>exact enters_of Tryz.func72 (by decide) rfl
 | claim=>exact enters_of Tryz.func75 (by decide) rfl
 | prepare=>exact enters_of Tryz.func114 (by decide) rfl
 | publish=>exact enters_of Tryz.func167 (by decide) rfl
 | disclaim=>exact enters_of Tryz.func164 (by decide) rfl
 | stat=>exact enters_of Tryz.func79 (by decide) rfl
 | take=>exact enters_of Tryz.func78 (by decide) rfl
 | visit=>exact enters_of Tryz.func76 (by decide) rfl
 | inspect=>exact enters_of Tryz.func116 (by decide) rfl
 | finish=>exact enters_of Tryz.func172 (by decide) rfl
 | endOp=>exact enters_of Tryz.func80 (by decide) rfl
 | done=>exact absurd rfl h
theorem Y.lock (H:Y b S r W) (hr:Rm 0 S) (hF:Fit b.C S r) (hm:r.mu≠-1):Calls Tryz.prog 43 #[ptr b.mb,.int .i64 r.t,.int .i64 r.mu] W fun e w'=>e = .returned (.bool (lockB S.ms r.t r.mu))/\Y b (lockedS S r) r w':=by
 unfold lockedS;rw [if_neg hm]
 exact H.does fun Om h=>Me.lock_any h r.t r.mu hF.tt.2 hr.l
theorem Rm.locked {n:Nat} (h:Rm (n+1) S):Rm n (lockedS S r):=by
 unfold lockedS;split
 ·exact h.mono (by omega)
 ·have:=len_lock S.ms r.t r.mu
  exact ⟨by have:=h.l;show (lockS S.ms r.t r.mu).ls.length+n<=_;omega,by have:=h.f;show S.fs.length+n<=_;omega,by have:=h.p;show S.pts.length+n<=_;omega,by have:=h.w;show (lockS S.ms r.t r.mu).ws.length+n < _;omega⟩
theorem Rm.called {n:Nat} (h:Rm (n+1) S):Rm n (calledS S r):=by
 unfold calledS;split
 ·exact h.mono (by omega)
 ·exact h.say ..
theorem Fit.called (hF:Fit b.C S r):Fit b.C (calledS (lockedS S r) r) { r with mu:=-1,cal:=true } :=
 ⟨hF.wf,hF.wg,hF.wc,hF.k,hF.p,hF.st,hF.cn,hF.cT,hF.z,fun h=>by
  have h1:=hF.mr h
  have e:(lockedS S r).pts=S.pts:=by unfold lockedS;split <;> rfl
  show r.mr < (calledS (lockedS S r) r).pts.length
  unfold calledS;split
  ·rw [e];exact h1
  ·simp only [say,List.length_append,List.length_cons,List.length_nil,e];omega,hF.q,hF.tt⟩
set_option maxHeartbeats 4000000 in
theorem step_of (hA:r.at_ ≠ .done->ActC r.at_ b.C b.w0) (H:Y b S r W) (hr:Rm 12 S) (hF:Fit b.C S r) (he:Env b.w0):Calls Tryz.prog 14 #[ptr b.g] W (Yd b (.bool (canB S r)) (stepA b.C S r).1 (stepA b.C S r).2):=by
 have HR:=Lib.hid hr
 have HF:=Lib.hid hF
 have HE:=Lib.hid he
 have H0:=Lib.hid H
 have HA:Hid (r.at_ ≠ .done->ActC r.at_ b.C b.w0):=hA
 clear hA
 by_cases hd:r.at_ = .done
 ·have hc:canB S r=false:=by unfold canB;rw [decide_eq_false (by simpa using hd)];rfl
  rw [show stepA b.C S r=(S,r) by unfold stepA;rw [hc];rfl,hc]
  have y0:=H.cell 3 (nextV r.at_) (fun _ _=>rfl)
  rw [show nextV r.at_ = .nilFunc by rw [hd];rfl] at y0
  have q0:=fun w=>nil_nil w
  clear H hr hF he hd hc
  go_enter Tryz.func14,Tryz.ntmps14
  go_wp2_with fail
  go_ret
  exact ⟨rfl,H0.out⟩
 ·have y0:=H.cell 3 (nextV r.at_) (fun _ _=>rfl)
  rw [next_is hd] at y0
  have HD:=Lib.hid hd
  obtain ⟨fn,hfn⟩:∃ n,fid r.at_=n:=⟨_,rfl⟩
  have HFN:=Lib.hid hfn
  rw [hfn] at y0
  have q0:=fun w=>func_nil fn w
  have HEN:Hid (Enters Tryz.prog fn):=hfn ▸ fid_enters r.at_ hd
  have HRL:Hid (Rm 11 (lockedS S r)):=hr.locked
  have HRM:Hid (Rm 10 (calledS (lockedS S r) r)):=HRL.out.called
  have HFC:=Lib.hid hF.called
  clear hfn
  by_cases hm:r.mu=-1
  ·have hc:canB S r=true:=by unfold canB;rw [decide_eq_true hd,show (r.mu == -1)=true by simpa using hm];rfl
   rw [show stepA b.C S r=actA b.C (calledS (lockedS S r) r) { r with mu:=-1,cal:=true } by unfold stepA;rw [hc,if_pos rfl],hc]
   clear hc
   cases hcal:r.cal
   ·have HCAL:Hid (r.cal=false):=hcal
    have HCS:Hid (calledS (lockedS S r) r=say (lockedS S r) { r with mu:=-1,cal:=true } 1 k0 0 0):=by show _=_;unfold calledS;rw [hcal];rfl
    clear hcal
    have HMU:Hid ((r.mu == -1)=true):=by show _=_;simpa using hm
    have HLS:Hid (Y b (lockedS S r) r W):=by unfold lockedS;rw [if_pos hm];exact H0.out
    clear hm H hr hF he hd
    go_enter Tryz.func14,Tryz.ntmps14
    go_wp2_with fail
    refine wp_region_held_drew (S:=fun w'=>w'.cell? ⟨b.g,4,none⟩=some (.int .i64 r.mu)/\w'.cell? ⟨b.g,0,none⟩=some (ptr b.B)/\w'.cell? ⟨b.B,18,none⟩=some (ptr b.mb)/\w'.cell? ⟨b.g,1,none⟩=some (.int .i64 r.t)) (by kernel_rfl) (⟨H0.out.drew.cell 4 (.int .i64 r.mu) (fun _ _=>rfl),H0.out.drew.cell 0 (ptr b.B) (fun _ _=>rfl),H0.out.drew.shared 18 (ptr b.mb) (fun _=>rfl),H0.out.drew.cell 1 (.int .i64 r.t) (fun _ _=>rfl)⟩) (fun hH=>?_)
    refine zqt 0 (some 12) ?v1 rfl rfl ?c1 hH ?r1
    case c1=>(intro w' _;go_simp;(try with_reducible rfl))
    try simp only [Act.put,zq1,zq2,zq3]
    refine zqt 1 (some 13) ?v2 rfl rfl ?c2 hH ?r2
    case c2=>(intro w' _;go_simp;(try with_reducible rfl))
    try simp only [Act.put,zq1,zq2,zq3]
    refine zqt 2 (some 14) ?v3 rfl rfl ?c3 hH ?r3
    case c3=>(intro w' _;go_simp;(try with_reducible rfl))
    try simp only [Act.put,zq1,zq2,zq3]
    refine zqt 3 (some 15) ?v4 rfl rfl ?c4 hH ?r4
    case c4=>(intro w' hS;(try dsimp only at hS);go_simp;(try with_reducible rfl))
    try simp only [Act.put,zq1,zq2,zq3]
    refine zqt 4 (some 16) ?v5 rfl rfl ?c5 hH ?r5
    case c5=>(intro w' hS;have hm1:=HMU.out;have hm2:decide (r.mu=-1)=true:=(by simpa using hm1);have hm3:(r.mu != -1)=false:=(by simpa using hm1);go_simp;(try with_reducible rfl))
    try simp only [Act.put,zq1,zq2,zq3]
    refine zqt 5 (some 17) ?v6 rfl rfl ?c6 hH ?r6
    case c6=>(intro w' _;go_simp;(try with_reducible rfl))
    try simp only [Act.put,zq1,zq2,zq3]
    refine zqp 6 (some 18) rfl rfl hH ?_
    try simp only [Act.put,zq1,zq2,zq3]
    refine zqp 7 (some 19) rfl rfl hH ?_
    try simp only [Act.put,zq1,zq2,zq3]
    refine zqp 8 (some 20) rfl rfl hH ?_
    try simp only [Act.put,zq1,zq2,zq3]
    refine zqp 9 (some 21) rfl rfl hH ?_
    try simp only [Act.put,zq1,zq2,zq3]
    refine zqp 10 (some 22) rfl rfl hH ?_
    try simp only [Act.put,zq1,zq2,zq3]
    refine zqp 11 (some 23) rfl rfl hH ?_
    try simp only [Act.put,zq1,zq2,zq3]
    refine zqp 12 (some 24) rfl rfl hH ?_
    try simp only [Act.put,zq1,zq2,zq3]
    refine zqp 13 (some 25) rfl rfl hH ?_
    try simp only [Act.put,zq1,zq2,zq3]
    refine zqp 14 (some 26) rfl rfl hH ?_
    try simp only [Act.put,zq1,zq2,zq3]
    refine zqp 15 (some 27) rfl rfl hH ?_
    try simp only [Act.put,zq1,zq2,zq3]
    refine zqp 16 (some 28) rfl rfl hH ?_
    try simp only [Act.put,zq1,zq2,zq3]
    refine zqp 17 (some 29) rfl rfl hH ?_
    try simp only [Act.put,zq1,zq2,zq3]
    refine zqp 18 (some 30) rfl rfl hH ?_
    try simp only [Act.put,zq1,zq2,zq3]
    refine zqp 19 (some 31) rfl rfl hH ?_
    try simp only [Act.put,zq1,zq2,zq3]
    refine zqp 20 (some 32) rfl rfl hH ?_
    try simp only [Act.put,zq1,zq2,zq3]
    refine zqp 21 (some 33) rfl rfl hH ?_
    try simp only [Act.put,zq1,zq2,zq3]
    refine zqp 22 (some 34) rfl rfl hH ?_
    try simp only [Act.put,zq1,zq2,zq3]
    refine zqt 23 (some 35) ?v24 rfl rfl ?c24 hH ?r24
    case c24=>(intro w' _;go_simp;(try with_reducible rfl))
    try simp only [Act.put,zq1,zq2,zq3]
    refine wpAnyH_done (by kernel_rfl) ?_ _
    clear hH q0 y0
    obtain ⟨w1,hw1⟩:∃ VV,W.drew=VV:=⟨_,rfl⟩
    have H1:Hid (Y b (lockedS S r) r w1):=hw1 ▸ Lib.hid HLS.out.drew
    rw [hw1]
    clear hw1
    have HS:=Lib.hid (H1.out.set (r':={ r with mu:=-1 }) 4 (.int .i64 (-1)) (fun _ _=>rfl) rfl rfl)
    have f0:=H1.out.frozen 4
    have c0:=H1.out.cell 4 (.int .i64 r.mu) (fun _ _=>rfl)
    have c1:(w1.setCell ⟨b.g,4,none⟩ (.int .i64 (-1))).cell? ⟨b.g,5,none⟩=some (.bool r.cal):=HS.out.cell 5 _ (fun _ _=>rfl)
    rw [HCAL.out] at c1
    clear H1
    have HS2:=Lib.hid (HS.out.set (r':={ r with mu:=-1,cal:=true }) 5 (.bool true) (fun _ _=>rfl) rfl rfl)
    have f1:=HS.out.frozen 5
    clear HS
    go_wp2_with fail
    go_at_call 44
    refine (record0 HS2.out (HRL.out.mono (by omega)) 1 0 0).mono ?_
    rintro e w2 ⟨rfl,hy⟩
    have H2:Hid (Y b (calledS (lockedS S r) r) { r with mu:=-1,cal:=true } w2):=by rw [HCS.out];exact hy
    clear hy f0 c0 c1 f1 HS2
    have c2:w2.cell? ⟨b.g,3,none⟩=some (nextV r.at_):=H2.out.cell 3 _ (fun _ _=>rfl)
    rw [next_is HD.out,HFN.out] at c2
    have eg:=HEN.out
    unfold Enters at eg
    go_wp2_with fail
    have HAC:=Lib.hid (HA.out HD.out (r:={ r with mu:=-1,cal:=true }) rfl rfl rfl H2.out (HRM.out.mono (by omega)) HFC.out)
    rw [show fid ({ r with mu:=-1,cal:=true }:Rn).at_=fn from HFN.out] at HAC
    refine HAC.out.mono ?_
    rintro e w3 ⟨rfl,hy⟩
    have H3:=Lib.hid hy
    clear hy c2 HAC
    (try clear f0 c0 c1 HS)
    go_wp2_with fail
    go_ret
    exact ⟨rfl,H3.out⟩
   ·have HCAL:Hid (r.cal=true):=hcal
    have HCS:Hid (lockedS S r=calledS (lockedS S r) r):=by show _=_;unfold calledS;rw [hcal];rfl
    have HCR:Hid (({ r with mu:=-1 }:Rn) = { r with mu:=-1,cal:=true }):=by show _=_;rw [← hcal]
    clear hcal
    have HMU:Hid ((r.mu == -1)=true):=by show _=_;simpa using hm
    have HLS:Hid (Y b (lockedS S r) r W):=by unfold lockedS;rw [if_pos hm];exact H0.out
    clear hm H hr hF he hd
    go_enter Tryz.func14,Tryz.ntmps14
    go_wp2_with fail
    refine wp_region_held_drew (S:=fun w'=>w'.cell? ⟨b.g,4,none⟩=some (.int .i64 r.mu)/\w'.cell? ⟨b.g,0,none⟩=some (ptr b.B)/\w'.cell? ⟨b.B,18,none⟩=some (ptr b.mb)/\w'.cell? ⟨b.g,1,none⟩=some (.int .i64 r.t)) (by kernel_rfl) (⟨H0.out.drew.cell 4 (.int .i64 r.mu) (fun _ _=>rfl),H0.out.drew.cell 0 (ptr b.B) (fun _ _=>rfl),H0.out.drew.shared 18 (ptr b.mb) (fun _=>rfl),H0.out.drew.cell 1 (.int .i64 r.t) (fun _ _=>rfl)⟩) (fun hH=>?_)
    refine zqt 0 (some 12) ?v25 rfl rfl ?c25 hH ?r25
    case c25=>(intro w' _;go_simp;(try with_reducible rfl))
    try simp only [Act.put,zq1,zq2,zq3]
    refine zqt 1 (some 13) ?v26 rfl rfl ?c26 hH ?r26
    case c26=>(intro w' _;go_simp;(try with_reducible rfl))
    try simp only [Act.put,zq1,zq2,zq3]
    refine zqt 2 (some 14) ?v27 rfl rfl ?c27 hH ?r27
    case c27=>(intro w' _;go_simp;(try with_reducible rfl))
    try simp only [Act.put,zq1,zq2,zq3]
    refine zqt 3 (some 15) ?v28 rfl rfl ?c28 hH ?r28
    case c28=>(intro w' hS;(try dsimp only at hS);go_simp;(try with_reducible rfl))
    try simp only [Act.put,zq1,zq2,zq3]
    refine zqt 4 (some 16) ?v29 rfl rfl ?c29 hH ?r29
    case c29=>(intro w' hS;have hm1:=HMU.out;have hm2:decide (r.mu=-1)=true:=(by simpa using hm1);have hm3:(r.mu != -1)=false:=(by simpa using hm1);go_simp;(try with_reducible rfl))
    try simp only [Act.put,zq1,zq2,zq3]
    refine zqt 5 (some 17) ?v30 rfl rfl ?c30 hH ?r30
    case c30=>(intro w' _;go_simp;(try with_reducible rfl))
    try simp only [Act.put,zq1,zq2,zq3]
    refine zqp 6 (some 18) rfl rfl hH ?_
    try simp only [Act.put,zq1,zq2,zq3]
    refine zqp 7 (some 19) rfl rfl hH ?_
    try simp only [Act.put,zq1,zq2,zq3]
    refine zqp 8 (some 20) rfl rfl hH ?_
    try simp only [Act.put,zq1,zq2,zq3]
    refine zqp 9 (some 21) rfl rfl hH ?_
    try simp only [Act.put,zq1,zq2,zq3]
    refine zqp 10 (some 22) rfl rfl hH ?_
    try simp only [Act.put,zq1,zq2,zq3]
    refine zqp 11 (some 23) rfl rfl hH ?_
    try simp only [Act.put,zq1,zq2,zq3]
    refine zqp 12 (some 24) rfl rfl hH ?_
    try simp only [Act.put,zq1,zq2,zq3]
    refine zqp 13 (some 25) rfl rfl hH ?_
    try simp only [Act.put,zq1,zq2,zq3]
    refine zqp 14 (some 26) rfl rfl hH ?_
    try simp only [Act.put,zq1,zq2,zq3]
    refine zqp 15 (some 27) rfl rfl hH ?_
    try simp only [Act.put,zq1,zq2,zq3]
    refine zqp 16 (some 28) rfl rfl hH ?_
    try simp only [Act.put,zq1,zq2,zq3]
    refine zqp 17 (some 29) rfl rfl hH ?_
    try simp only [Act.put,zq1,zq2,zq3]
    refine zqp 18 (some 30) rfl rfl hH ?_
    try simp only [Act.put,zq1,zq2,zq3]
    refine zqp 19 (some 31) rfl rfl hH ?_
    try simp only [Act.put,zq1,zq2,zq3]
    refine zqp 20 (some 32) rfl rfl hH ?_
    try simp only [Act.put,zq1,zq2,zq3]
    refine zqp 21 (some 33) rfl rfl hH ?_
    try simp only [Act.put,zq1,zq2,zq3]
    refine zqp 22 (some 34) rfl rfl hH ?_
    try simp only [Act.put,zq1,zq2,zq3]
    refine zqt 23 (some 35) ?v48 rfl rfl ?c48 hH ?r48
    case c48=>(intro w' _;go_simp;(try with_reducible rfl))
    try simp only [Act.put,zq1,zq2,zq3]
    refine wpAnyH_done (by kernel_rfl) ?_ _
    clear hH q0 y0
    obtain ⟨w1,hw1⟩:∃ VV,W.drew=VV:=⟨_,rfl⟩
    have H1:Hid (Y b (lockedS S r) r w1):=hw1 ▸ Lib.hid HLS.out.drew
    rw [hw1]
    clear hw1
    have HS:=Lib.hid (H1.out.set (r':={ r with mu:=-1 }) 4 (.int .i64 (-1)) (fun _ _=>rfl) rfl rfl)
    have f0:=H1.out.frozen 4
    have c0:=H1.out.cell 4 (.int .i64 r.mu) (fun _ _=>rfl)
    have c1:(w1.setCell ⟨b.g,4,none⟩ (.int .i64 (-1))).cell? ⟨b.g,5,none⟩=some (.bool r.cal):=HS.out.cell 5 _ (fun _ _=>rfl)
    rw [HCAL.out] at c1
    clear H1
    have c2:(w1.setCell ⟨b.g,4,none⟩ (.int .i64 (-1))).cell? ⟨b.g,3,none⟩=some (nextV r.at_):=HS.out.cell 3 _ (fun _ _=>rfl)
    rw [next_is HD.out,HFN.out] at c2
    have eg:=HEN.out
    unfold Enters at eg
    go_wp2_with fail
    have HAC:=Lib.hid (HA.out HD.out (r:={ r with mu:=-1,cal:=true }) rfl rfl rfl (HCS.out ▸ HCR.out ▸ HS.out) (HRM.out.mono (by omega)) HFC.out)
    rw [show fid ({ r with mu:=-1,cal:=true }:Rn).at_=fn from HFN.out] at HAC
    refine HAC.out.mono ?_
    rintro e w3 ⟨rfl,hy⟩
    have H3:=Lib.hid hy
    clear hy c2 HAC
    (try clear f0 c0 c1 HS)
    go_wp2_with fail
    go_ret
    exact ⟨rfl,H3.out⟩
  ·cases hl:lockB S.ms r.t r.mu
   ·have hc:canB S r=false:=by unfold canB;rw [hl,show (r.mu == -1)=false by simpa using hm];simp
    rw [show stepA b.C S r=(S,r) by unfold stepA;rw [hc];rfl,hc]
    have HMU:Hid ((r.mu == -1)=false):=by show _=_;simpa using hm
    have HLK:Hid (∀ W,Y b S r W->Calls Tryz.prog 43 #[ptr b.mb,.int .i64 r.t,.int .i64 r.mu] W fun e w'=>e = .returned (.bool false)/\Y b S r w'):=fun W h=>by
     have:=h.lock (hr.mono (by omega)) hF hm
     rw [hl,show lockedS S r=S by unfold lockedS;rw [if_neg hm,show lockS S.ms r.t r.mu=S.ms by unfold lockS;rw [hl];rfl]] at this
     exact this
    clear hm hl hc H hr hF he hd
    go_enter Tryz.func14,Tryz.ntmps14
    go_wp2_with fail
    refine wp_region_held_drew (S:=fun w'=>w'.cell? ⟨b.g,4,none⟩=some (.int .i64 r.mu)/\w'.cell? ⟨b.g,0,none⟩=some (ptr b.B)/\w'.cell? ⟨b.B,18,none⟩=some (ptr b.mb)/\w'.cell? ⟨b.g,1,none⟩=some (.int .i64 r.t)) (by kernel_rfl) (⟨H0.out.drew.cell 4 (.int .i64 r.mu) (fun _ _=>rfl),H0.out.drew.cell 0 (ptr b.B) (fun _ _=>rfl),H0.out.drew.shared 18 (ptr b.mb) (fun _=>rfl),H0.out.drew.cell 1 (.int .i64 r.t) (fun _ _=>rfl)⟩) (fun hH=>?_)
    refine zqt 0 (some 12) ?v49 rfl rfl ?c49 hH ?r49
    case c49=>(intro w' _;go_simp;(try with_reducible rfl))
    try simp only [Act.put,zq1,zq2,zq3]
    refine zqt 1 (some 13) ?v50 rfl rfl ?c50 hH ?r50
    case c50=>(intro w' _;go_simp;(try with_reducible rfl))
    try simp only [Act.put,zq1,zq2,zq3]
    refine zqt 2 (some 14) ?v51 rfl rfl ?c51 hH ?r51
    case c51=>(intro w' _;go_simp;(try with_reducible rfl))
    try simp only [Act.put,zq1,zq2,zq3]
    refine zqt 3 (some 15) ?v52 rfl rfl ?c52 hH ?r52
    case c52=>(intro w' hS;(try dsimp only at hS);go_simp;(try with_reducible rfl))
    try simp only [Act.put,zq1,zq2,zq3]
    refine zqt 4 (some 16) ?v53 rfl rfl ?c53 hH ?r53
    case c53=>(intro w' hS;have hm1:=HMU.out;have hm2:decide (r.mu=-1)=false:=(by simpa using hm1);have hm3:(r.mu != -1)=true:=(by simpa using hm1);go_simp;(try with_reducible rfl))
    try simp only [Act.put,zq1,zq2,zq3]
    refine zqt 5 (some 17) ?v54 rfl rfl ?c54 hH ?r54
    case c54=>(intro w' _;go_simp;(try with_reducible rfl))
    try simp only [Act.put,zq1,zq2,zq3]
    refine zqt 6 (some 18) ?v55 rfl rfl ?c55 hH ?r55
    case c55=>(intro w' _;go_simp;(try with_reducible rfl))
    try simp only [Act.put,zq1,zq2,zq3]
    refine zqt 7 (some 19) ?v56 rfl rfl ?c56 hH ?r56
    case c56=>(intro w' _;go_simp;(try with_reducible rfl))
    try simp only [Act.put,zq1,zq2,zq3]
    refine zqt 8 (some 20) ?v57 rfl rfl ?c57 hH ?r57
    case c57=>(intro w' _;go_simp;(try with_reducible rfl))
    try simp only [Act.put,zq1,zq2,zq3]
    refine zqt 9 (some 21) ?v58 rfl rfl ?c58 hH ?r58
    case c58=>(intro w' hS;(try dsimp only at hS);go_simp;(try with_reducible rfl))
    try simp only [Act.put,zq1,zq2,zq3]
    refine zqt 10 (some 22) ?v59 rfl rfl ?c59 hH ?r59
    case c59=>(intro w' _;go_simp;(try with_reducible rfl))
    try simp only [Act.put,zq1,zq2,zq3]
    refine zqt 11 (some 23) ?v60 rfl rfl ?c60 hH ?r60
    case c60=>(intro w' _;go_simp;(try with_reducible rfl))
    try simp only [Act.put,zq1,zq2,zq3]
    refine zqt 12 (some 24) ?v61 rfl rfl ?c61 hH ?r61
    case c61=>(intro w' hS;(try dsimp only at hS);go_simp;(try with_reducible rfl))
    try simp only [Act.put,zq1,zq2,zq3]
    refine zqt 13 (some 25) ?v62 rfl rfl ?c62 hH ?r62
    case c62=>(intro w' _;go_simp;(try with_reducible rfl))
    try simp only [Act.put,zq1,zq2,zq3]
    refine zqt 14 (some 26) ?v63 rfl rfl ?c63 hH ?r63
    case c63=>(intro w' _;go_simp;(try with_reducible rfl))
    try simp only [Act.put,zq1,zq2,zq3]
    refine zqt 15 (some 27) ?v64 rfl rfl ?c64 hH ?r64
    case c64=>(intro w' _;go_simp;(try with_reducible rfl))
    try simp only [Act.put,zq1,zq2,zq3]
    refine zqt 16 (some 28) ?v65 rfl rfl ?c65 hH ?r65
    case c65=>(intro w' hS;(try dsimp only at hS);go_simp;(try with_reducible rfl))
    try simp only [Act.put,zq1,zq2,zq3]
    refine zqt 17 (some 29) ?v66 rfl rfl ?c66 hH ?r66
    case c66=>(intro w' _;go_simp;(try with_reducible rfl))
    try simp only [Act.put,zq1,zq2,zq3]
    refine zqt 18 (some 30) ?v67 rfl rfl ?c67 hH ?r67
    case c67=>(intro w' _;go_simp;(try with_reducible rfl))
    try simp only [Act.put,zq1,zq2,zq3]
    refine zqt 19 (some 31) ?v68 rfl rfl ?c68 hH ?r68
    case c68=>(intro w' _;go_simp;(try with_reducible rfl))
    try simp only [Act.put,zq1,zq2,zq3]
    refine zqt 20 (some 32) ?v69 rfl rfl ?c69 hH ?r69
    case c69=>(intro w' hS;(try dsimp only at hS);go_simp;(try with_reducible rfl))
    try simp only [Act.put,zq1,zq2,zq3]
    refine wpAnyH_ready (rs:=[21]) (by kernel_rfl) (by simp) (AllReadyH.cons rfl (fun K hK=>?_) (AllReadyH.nil))
    go_simp
    go_at_call 43
    refine (HLK.out _ H0.out.drew).mono ?_
    rintro e w1 ⟨rfl,hy⟩
    refine hK.out _ _ (⟨hy.cell 4 (.int .i64 r.mu) (fun _ _=>rfl),hy.cell 0 (ptr b.B) (fun _ _=>rfl),hy.shared 18 (ptr b.mb) (fun _=>rfl),hy.cell 1 (.int .i64 r.t) (fun _ _=>rfl)⟩) (fun hH=>?_)
    clear hK K
    have H1:=Lib.hid hy
    clear hy
    try simp only [Act.put,zq1,zq2,zq3]
    refine zqt 22 (some 34) ?v70 rfl rfl ?c70 hH ?r70
    case c70=>(intro w' _;go_simp;(try with_reducible rfl))
    try simp only [Act.put,zq1,zq2,zq3]
    refine zqt 23 (some 35) ?v71 rfl rfl ?c71 hH ?r71
    case c71=>(intro w' _;go_simp;(try with_reducible rfl))
    try simp only [Act.put,zq1,zq2,zq3]
    refine wpAnyH_done (by kernel_rfl) ?_ _
    clear hH q0 y0
    go_wp2_with fail
    go_ret
    exact ⟨rfl,H1.out⟩
   ·have hc:canB S r=true:=by unfold canB;rw [decide_eq_true hd,hl,Bool.or_true];rfl
    rw [show stepA b.C S r=actA b.C (calledS (lockedS S r) r) { r with mu:=-1,cal:=true } by unfold stepA;rw [hc,if_pos rfl],hc]
    clear hc
    cases hcal:r.cal
    ·have HCAL:Hid (r.cal=false):=hcal
     have HCS:Hid (calledS (lockedS S r) r=say (lockedS S r) { r with mu:=-1,cal:=true } 1 k0 0 0):=by show _=_;unfold calledS;rw [hcal];rfl
     clear hcal
     have HMU:Hid ((r.mu == -1)=false):=by show _=_;simpa using hm
     have HLK:Hid (∀ W,Y b S r W->Calls Tryz.prog 43 #[ptr b.mb,.int .i64 r.t,.int .i64 r.mu] W fun e w'=>e = .returned (.bool true)/\Y b (lockedS S r) r w'):=fun W h=>hl ▸ h.lock (hr.mono (by omega)) hF hm
     clear hm hl H hr hF he hd
     go_enter Tryz.func14,Tryz.ntmps14
     go_wp2_with fail
     refine wp_region_held_drew (S:=fun w'=>w'.cell? ⟨b.g,4,none⟩=some (.int .i64 r.mu)/\w'.cell? ⟨b.g,0,none⟩=some (ptr b.B)/\w'.cell? ⟨b.B,18,none⟩=some (ptr b.mb)/\w'.cell? ⟨b.g,1,none⟩=some (.int .i64 r.t)) (by kernel_rfl) (⟨H0.out.drew.cell 4 (.int .i64 r.mu) (fun _ _=>rfl),H0.out.drew.cell 0 (ptr b.B) (fun _ _=>rfl),H0.out.drew.shared 18 (ptr b.mb) (fun _=>rfl),H0.out.drew.cell 1 (.int .i64 r.t) (fun _ _=>rfl)⟩) (fun hH=>?_)
     refine zqt 0 (some 12) ?v72 rfl rfl ?c72 hH ?r72
     case c72=>(intro w' _;go_simp;(try with_reducible rfl))
     try simp only [Act.put,zq1,zq2,zq3]
     refine zqt 1 (some 13) ?v73 rfl rfl ?c73 hH ?r73
     case c73=>(intro w' _;go_simp;(try with_reducible rfl))
     try simp only [Act.put,zq1,zq2,zq3]
     refine zqt 2 (some 14) ?v74 rfl rfl ?c74 hH ?r74
     case c74=>(intro w' _;go_simp;(try with_reducible rfl))
     try simp only [Act.put,zq1,zq2,zq3]
     refine zqt 3 (some 15) ?v75 rfl rfl ?c75 hH ?r75
     case c75=>(intro w' hS;(try dsimp only at hS);go_simp;(try with_reducible rfl))
     try simp only [Act.put,zq1,zq2,zq3]
     refine zqt 4 (some 16) ?v76 rfl rfl ?c76 hH ?r76
     case c76=>(intro w' hS;have hm1:=HMU.out;have hm2:decide (r.mu=-1)=false:=(by simpa using hm1);have hm3:(r.mu != -1)=true:=(by simpa using hm1);go_simp;(try with_reducible rfl))
     try simp only [Act.put,zq1,zq2,zq3]
     refine zqt 5 (some 17) ?v77 rfl rfl ?c77 hH ?r77
     case c77=>(intro w' _;go_simp;(try with_reducible rfl))
     try simp only [Act.put,zq1,zq2,zq3]
     refine zqt 6 (some 18) ?v78 rfl rfl ?c78 hH ?r78
     case c78=>(intro w' _;go_simp;(try with_reducible rfl))
     try simp only [Act.put,zq1,zq2,zq3]
     refine zqt 7 (some 19) ?v79 rfl rfl ?c79 hH ?r79
     case c79=>(intro w' _;go_simp;(try with_reducible rfl))
     try simp only [Act.put,zq1,zq2,zq3]
     refine zqt 8 (some 20) ?v80 rfl rfl ?c80 hH ?r80
     case c80=>(intro w' _;go_simp;(try with_reducible rfl))
     try simp only [Act.put,zq1,zq2,zq3]
     refine zqt 9 (some 21) ?v81 rfl rfl ?c81 hH ?r81
     case c81=>(intro w' hS;(try dsimp only at hS);go_simp;(try with_reducible rfl))
     try simp only [Act.put,zq1,zq2,zq3]
     refine zqt 10 (some 22) ?v82 rfl rfl ?c82 hH ?r82
     case c82=>(intro w' _;go_simp;(try with_reducible rfl))
     try simp only [Act.put,zq1,zq2,zq3]
     refine zqt 11 (some 23) ?v83 rfl rfl ?c83 hH ?r83
     case c83=>(intro w' _;go_simp;(try with_reducible rfl))
     try simp only [Act.put,zq1,zq2,zq3]
     refine zqt 12 (some 24) ?v84 rfl rfl ?c84 hH ?r84
     case c84=>(intro w' hS;(try dsimp only at hS);go_simp;(try with_reducible rfl))
     try simp only [Act.put,zq1,zq2,zq3]
     refine zqt 13 (some 25) ?v85 rfl rfl ?c85 hH ?r85
     case c85=>(intro w' _;go_simp;(try with_reducible rfl))
     try simp only [Act.put,zq1,zq2,zq3]
     refine zqt 14 (some 26) ?v86 rfl rfl ?c86 hH ?r86
     case c86=>(intro w' _;go_simp;(try with_reducible rfl))
     try simp only [Act.put,zq1,zq2,zq3]
     refine zqt 15 (some 27) ?v87 rfl rfl ?c87 hH ?r87
     case c87=>(intro w' _;go_simp;(try with_reducible rfl))
     try simp only [Act.put,zq1,zq2,zq3]
     refine zqt 16 (some 28) ?v88 rfl rfl ?c88 hH ?r88
     case c88=>(intro w' hS;(try dsimp only at hS);go_simp;(try with_reducible rfl))
     try simp only [Act.put,zq1,zq2,zq3]
     refine zqt 17 (some 29) ?v89 rfl rfl ?c89 hH ?r89
     case c89=>(intro w' _;go_simp;(try with_reducible rfl))
     try simp only [Act.put,zq1,zq2,zq3]
     refine zqt 18 (some 30) ?v90 rfl rfl ?c90 hH ?r90
     case c90=>(intro w' _;go_simp;(try with_reducible rfl))
     try simp only [Act.put,zq1,zq2,zq3]
     refine zqt 19 (some 31) ?v91 rfl rfl ?c91 hH ?r91
     case c91=>(intro w' _;go_simp;(try with_reducible rfl))
     try simp only [Act.put,zq1,zq2,zq3]
     refine zqt 20 (some 32) ?v92 rfl rfl ?c92 hH ?r92
     case c92=>(intro w' hS;(try dsimp only at hS);go_simp;(try with_reducible rfl))
     try simp only [Act.put,zq1,zq2,zq3]
     refine wpAnyH_ready (rs:=[21]) (by kernel_rfl) (by simp) (AllReadyH.cons rfl (fun K hK=>?_) (AllReadyH.nil))
     go_simp
     go_at_call 43
     refine (HLK.out _ H0.out.drew).mono ?_
     rintro e w1 ⟨rfl,hy⟩
     refine hK.out _ _ (⟨hy.cell 4 (.int .i64 r.mu) (fun _ _=>rfl),hy.cell 0 (ptr b.B) (fun _ _=>rfl),hy.shared 18 (ptr b.mb) (fun _=>rfl),hy.cell 1 (.int .i64 r.t) (fun _ _=>rfl)⟩) (fun hH=>?_)
     clear hK K
     have H1:=Lib.hid hy
     clear hy
     try simp only [Act.put,zq1,zq2,zq3]
     refine zqt 22 (some 34) ?v93 rfl rfl ?c93 hH ?r93
     case c93=>(intro w' _;go_simp;(try with_reducible rfl))
     try simp only [Act.put,zq1,zq2,zq3]
     refine zqt 23 (some 35) ?v94 rfl rfl ?c94 hH ?r94
     case c94=>(intro w' _;go_simp;(try with_reducible rfl))
     try simp only [Act.put,zq1,zq2,zq3]
     refine wpAnyH_done (by kernel_rfl) ?_ _
     clear hH q0 y0
     have HS:=Lib.hid (H1.out.set (r':={ r with mu:=-1 }) 4 (.int .i64 (-1)) (fun _ _=>rfl) rfl rfl)
     have f0:=H1.out.frozen 4
     have c0:=H1.out.cell 4 (.int .i64 r.mu) (fun _ _=>rfl)
     have c1:(w1.setCell ⟨b.g,4,none⟩ (.int .i64 (-1))).cell? ⟨b.g,5,none⟩=some (.bool r.cal):=HS.out.cell 5 _ (fun _ _=>rfl)
     rw [HCAL.out] at c1
     clear H1
     have HS2:=Lib.hid (HS.out.set (r':={ r with mu:=-1,cal:=true }) 5 (.bool true) (fun _ _=>rfl) rfl rfl)
     have f1:=HS.out.frozen 5
     clear HS
     go_wp2_with fail
     go_at_call 44
     refine (record0 HS2.out (HRL.out.mono (by omega)) 1 0 0).mono ?_
     rintro e w2 ⟨rfl,hy⟩
     have H2:Hid (Y b (calledS (lockedS S r) r) { r with mu:=-1,cal:=true } w2):=by rw [HCS.out];exact hy
     clear hy f0 c0 c1 f1 HS2
     have c2:w2.cell? ⟨b.g,3,none⟩=some (nextV r.at_):=H2.out.cell 3 _ (fun _ _=>rfl)
     rw [next_is HD.out,HFN.out] at c2
     have eg:=HEN.out
     unfold Enters at eg
     go_wp2_with fail
     have HAC:=Lib.hid (HA.out HD.out (r:={ r with mu:=-1,cal:=true }) rfl rfl rfl H2.out (HRM.out.mono (by omega)) HFC.out)
     rw [show fid ({ r with mu:=-1,cal:=true }:Rn).at_=fn from HFN.out] at HAC
     refine HAC.out.mono ?_
     rintro e w3 ⟨rfl,hy⟩
     have H3:=Lib.hid hy
     clear hy c2 HAC
     (try clear f0 c0 c1 HS)
     go_wp2_with fail
     go_ret
     exact ⟨rfl,H3.out⟩
    ·have HCAL:Hid (r.cal=true):=hcal
     have HCS:Hid (lockedS S r=calledS (lockedS S r) r):=by show _=_;unfold calledS;rw [hcal];rfl
     have HCR:Hid (({ r with mu:=-1 }:Rn) = { r with mu:=-1,cal:=true }):=by show _=_;rw [← hcal]
     clear hcal
     have HMU:Hid ((r.mu == -1)=false):=by show _=_;simpa using hm
     have HLK:Hid (∀ W,Y b S r W->Calls Tryz.prog 43 #[ptr b.mb,.int .i64 r.t,.int .i64 r.mu] W fun e w'=>e = .returned (.bool true)/\Y b (lockedS S r) r w'):=fun W h=>hl ▸ h.lock (hr.mono (by omega)) hF hm
     clear hm hl H hr hF he hd
     go_enter Tryz.func14,Tryz.ntmps14
     go_wp2_with fail
     refine wp_region_held_drew (S:=fun w'=>w'.cell? ⟨b.g,4,none⟩=some (.int .i64 r.mu)/\w'.cell? ⟨b.g,0,none⟩=some (ptr b.B)/\w'.cell? ⟨b.B,18,none⟩=some (ptr b.mb)/\w'.cell? ⟨b.g,1,none⟩=some (.int .i64 r.t)) (by kernel_rfl) (⟨H0.out.drew.cell 4 (.int .i64 r.mu) (fun _ _=>rfl),H0.out.drew.cell 0 (ptr b.B) (fun _ _=>rfl),H0.out.drew.shared 18 (ptr b.mb) (fun _=>rfl),H0.out.drew.cell 1 (.int .i64 r.t) (fun _ _=>rfl)⟩) (fun hH=>?_)
     refine zqt 0 (some 12) ?v95 rfl rfl ?c95 hH ?r95
     case c95=>(intro w' _;go_simp;(try with_reducible rfl))
     try simp only [Act.put,zq1,zq2,zq3]
     refine zqt 1 (some 13) ?v96 rfl rfl ?c96 hH ?r96
     case c96=>(intro w' _;go_simp;(try with_reducible rfl))
     try simp only [Act.put,zq1,zq2,zq3]
     refine zqt 2 (some 14) ?v97 rfl rfl ?c97 hH ?r97
     case c97=>(intro w' _;go_simp;(try with_reducible rfl))
     try simp only [Act.put,zq1,zq2,zq3]
     refine zqt 3 (some 15) ?v98 rfl rfl ?c98 hH ?r98
     case c98=>(intro w' hS;(try dsimp only at hS);go_simp;(try with_reducible rfl))
     try simp only [Act.put,zq1,zq2,zq3]
     refine zqt 4 (some 16) ?v99 rfl rfl ?c99 hH ?r99
     case c99=>(intro w' hS;have hm1:=HMU.out;have hm2:decide (r.mu=-1)=false:=(by simpa using hm1);have hm3:(r.mu != -1)=true:=(by simpa using hm1);go_simp;(try with_reducible rfl))
     try simp only [Act.put,zq1,zq2,zq3]
     refine zqt 5 (some 17) ?v100 rfl rfl ?c100 hH ?r100
     case c100=>(intro w' _;go_simp;(try with_reducible rfl))
     try simp only [Act.put,zq1,zq2,zq3]
     refine zqt 6 (some 18) ?v101 rfl rfl ?c101 hH ?r101
     case c101=>(intro w' _;go_simp;(try with_reducible rfl))
     try simp only [Act.put,zq1,zq2,zq3]
     refine zqt 7 (some 19) ?v102 rfl rfl ?c102 hH ?r102
     case c102=>(intro w' _;go_simp;(try with_reducible rfl))
     try simp only [Act.put,zq1,zq2,zq3]
     refine zqt 8 (some 20) ?v103 rfl rfl ?c103 hH ?r103
     case c103=>(intro w' _;go_simp;(try with_reducible rfl))
     try simp only [Act.put,zq1,zq2,zq3]
     refine zqt 9 (some 21) ?v104 rfl rfl ?c104 hH ?r104
     case c104=>(intro w' hS;(try dsimp only at hS);go_simp;(try with_reducible rfl))
     try simp only [Act.put,zq1,zq2,zq3]
     refine zqt 10 (some 22) ?v105 rfl rfl ?c105 hH ?r105
     case c105=>(intro w' _;go_simp;(try with_reducible rfl))
     try simp only [Act.put,zq1,zq2,zq3]
     refine zqt 11 (some 23) ?v106 rfl rfl ?c106 hH ?r106
     case c106=>(intro w' _;go_simp;(try with_reducible rfl))
     try simp only [Act.put,zq1,zq2,zq3]
     refine zqt 12 (some 24) ?v107 rfl rfl ?c107 hH ?r107
     case c107=>(intro w' hS;(try dsimp only at hS);go_simp;(try with_reducible rfl))
     try simp only [Act.put,zq1,zq2,zq3]
     refine zqt 13 (some 25) ?v108 rfl rfl ?c108 hH ?r108
     case c108=>(intro w' _;go_simp;(try with_reducible rfl))
     try simp only [Act.put,zq1,zq2,zq3]
     refine zqt 14 (some 26) ?v109 rfl rfl ?c109 hH ?r109
     case c109=>(intro w' _;go_simp;(try with_reducible rfl))
     try simp only [Act.put,zq1,zq2,zq3]
     refine zqt 15 (some 27) ?v110 rfl rfl ?c110 hH ?r110
     case c110=>(intro w' _;go_simp;(try with_reducible rfl))
     try simp only [Act.put,zq1,zq2,zq3]
     refine zqt 16 (some 28) ?v111 rfl rfl ?c111 hH ?r111
     case c111=>(intro w' hS;(try dsimp only at hS);go_simp;(try with_reducible rfl))
     try simp only [Act.put,zq1,zq2,zq3]
     refine zqt 17 (some 29) ?v112 rfl rfl ?c112 hH ?r112
     case c112=>(intro w' _;go_simp;(try with_reducible rfl))
     try simp only [Act.put,zq1,zq2,zq3]
     refine zqt 18 (some 30) ?v113 rfl rfl ?c113 hH ?r113
     case c113=>(intro w' _;go_simp;(try with_reducible rfl))
     try simp only [Act.put,zq1,zq2,zq3]
     refine zqt 19 (some 31) ?v114 rfl rfl ?c114 hH ?r114
     case c114=>(intro w' _;go_simp;(try with_reducible rfl))
     try simp only [Act.put,zq1,zq2,zq3]
     refine zqt 20 (some 32) ?v115 rfl rfl ?c115 hH ?r115
     case c115=>(intro w' hS;(try dsimp only at hS);go_simp;(try with_reducible rfl))
     try simp only [Act.put,zq1,zq2,zq3]
     refine wpAnyH_ready (rs:=[21]) (by kernel_rfl) (by simp) (AllReadyH.cons rfl (fun K hK=>?_) (AllReadyH.nil))
     go_simp
     go_at_call 43
     refine (HLK.out _ H0.out.drew).mono ?_
     rintro e w1 ⟨rfl,hy⟩
     refine hK.out _ _ (⟨hy.cell 4 (.int .i64 r.mu) (fun _ _=>rfl),hy.cell 0 (ptr b.B) (fun _ _=>rfl),hy.shared 18 (ptr b.mb) (fun _=>rfl),hy.cell 1 (.int .i64 r.t) (fun _ _=>rfl)⟩) (fun hH=>?_)
     clear hK K
     have H1:=Lib.hid hy
     clear hy
     try simp only [Act.put,zq1,zq2,zq3]
     refine zqt 22 (some 34) ?v116 rfl rfl ?c116 hH ?r116
     case c116=>(intro w' _;go_simp;(try with_reducible rfl))
     try simp only [Act.put,zq1,zq2,zq3]
     refine zqt 23 (some 35) ?v117 rfl rfl ?c117 hH ?r117
     case c117=>(intro w' _;go_simp;(try with_reducible rfl))
     try simp only [Act.put,zq1,zq2,zq3]
     refine wpAnyH_done (by kernel_rfl) ?_ _
     clear hH q0 y0
     have HS:=Lib.hid (H1.out.set (r':={ r with mu:=-1 }) 4 (.int .i64 (-1)) (fun _ _=>rfl) rfl rfl)
     have f0:=H1.out.frozen 4
     have c0:=H1.out.cell 4 (.int .i64 r.mu) (fun _ _=>rfl)
     have c1:(w1.setCell ⟨b.g,4,none⟩ (.int .i64 (-1))).cell? ⟨b.g,5,none⟩=some (.bool r.cal):=HS.out.cell 5 _ (fun _ _=>rfl)
     rw [HCAL.out] at c1
     clear H1
     have c2:(w1.setCell ⟨b.g,4,none⟩ (.int .i64 (-1))).cell? ⟨b.g,3,none⟩=some (nextV r.at_):=HS.out.cell 3 _ (fun _ _=>rfl)
     rw [next_is HD.out,HFN.out] at c2
     have eg:=HEN.out
     unfold Enters at eg
     go_wp2_with fail
     have HAC:=Lib.hid (HA.out HD.out (r:={ r with mu:=-1,cal:=true }) rfl rfl rfl (HCS.out ▸ HCR.out ▸ HS.out) (HRM.out.mono (by omega)) HFC.out)
     rw [show fid ({ r with mu:=-1,cal:=true }:Rn).at_=fn from HFN.out] at HAC
     refine HAC.out.mono ?_
     rintro e w3 ⟨rfl,hy⟩
     have H3:=Lib.hid hy
     clear hy c2 HAC
     (try clear f0 c0 c1 HS)
     go_wp2_with fail
     go_ret
     exact ⟨rfl,H3.out⟩
end
end Pg
end Go.Proofs.YtcockldefmmhbaaGreatDoor
