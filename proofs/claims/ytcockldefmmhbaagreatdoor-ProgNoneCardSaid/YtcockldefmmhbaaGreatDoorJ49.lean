/- Several texts of this proof in one file, each in its own namespace. -/
import Derived.Test.YtcockldefmmhbaaGreatDoorSq
import Derived.Test.YtcockldefmmhbaaGreatDoorJ48
import Derived.Test.YtcockldefmmhbaaGreatDoorJ31
import Derived.Test.YtcockldefmmhbaaGreatDoorFloB
import Derived.Test.YtcockldefmmhbaaGreatDoorJ20
import Derived.Test.YtcockldefmmhbaaGreatDoorJ12
import Derived.Laws.EntriesVeiled
set_option linter.unusedVariables false
set_option linter.unusedSimpArgs false
set_option maxRecDepth 100000
namespace Go.Proofs.YtcockldefmmhbaaGreatDoor
open Go.ChangeShapes Go.WideShapes Go.ChangeAt Go.RowKit Go.Mtl Go.Lib
namespace Pg
open MemM (Ms lookV loadS swapB swapS holdV lockB lockS unlockS touchS moreS)
open RulM (R)
open AutM (Ke)
open Me (ptr)
open Tb (TAt TM Fw)
def Yd (b:Bs) (v:Value) (S:Sh) (r:Rn) (e:Ending) (w':World):Prop:=e = .returned v/\Y b S r w'
abbrev U:Value:=.tuple #[]
section
variable {b:Bs} {W:World} {S:Sh} {r:Rn}
theorem then_any (H:Y b S r W) (a:At) (n:Nat) (hv:nextV a=fnV n):Calls Tryz.prog 37 #[ptr b.g,fnV n] W (Yd b U S (goto r a)):=by
 have H1:=Lib.hid (H.set (r':=goto r a) 3 (fnV n) (fun _ _=>hv ▸ rfl) rfl rfl)
 have f3:=H.frozen 3
 have c3:=H.cell 3 (nextV r.at_) (fun _ _=>rfl)
 clear H hv
 go_enter Tryz.func37,Tryz.ntmps37
 go_wp2_with fail
 go_end0
 exact ⟨rfl,H1.out⟩
theorem lockThen_any (H:Y b S r W) (m:Int) (a:At) (n:Nat) (hv:nextV a=fnV n):Calls Tryz.prog 69 #[ptr b.g,.int .i64 m,fnV n] W (Yd b U S (lockTo r m a)):=by
 have H1:=Lib.hid ((H.set (r':={ r with mu:=m }) 4 (.int .i64 m) (fun _ _=>rfl) rfl rfl).set (r':=lockTo r m a) 3 (fnV n) (fun _ _=>hv ▸ rfl) rfl rfl)
 have f3:=H.frozen 3
 have c3:=H.cell 3 (nextV r.at_) (fun _ _=>rfl)
 have f4:=H.frozen 4
 have c4:=H.cell 4 _ (fun _ _=>rfl)
 clear H hv
 go_enter Tryz.func69,Tryz.ntmps69
 go_wp2_with fail
 go_end0
 exact ⟨rfl,H1.out⟩
theorem loadGate_any (H:Y b S r W) (hr:Rm 0 S):Calls Tryz.prog 71 #[ptr b.g] W (Yd b U (ldS S r 0) (ldG S r)):=by
 have HY:=Lib.hid H
 have HL:Hid (S.ms.ls.length<=1000000000000):=hr.l
 clear H hr
 go_enter Tryz.func71,Tryz.ntmps71
 go_wp2_with fail
 refine wp_region_held_drew (S:=fun w'=>w'.cell? ⟨b.g,0,none⟩=some (ptr b.B)/\w'.cell? ⟨b.B,18,none⟩=some (ptr b.mb)/\w'.cell? ⟨b.g,1,none⟩=some (.int .i64 r.t)) (by kernel_rfl) (⟨HY.out.drew.cell 0 (ptr b.B) (fun _ _=>rfl),HY.out.drew.shared 18 (ptr b.mb) (fun _=>rfl),HY.out.drew.cell 1 (.int .i64 r.t) (fun _ _=>rfl)⟩) (fun hH=>?_)
 refine zqt 0 (some 2) ?v1 rfl rfl ?c1 hH ?r1
 case c1=>(intro w' _;go_simp;(try with_reducible rfl))
 try simp only [Act.put,zq1,zq2,zq3]
 refine zqt 1 (some 3) ?v2 rfl rfl ?c2 hH ?r2
 case c2=>(intro w' _;go_simp;(try with_reducible rfl))
 try simp only [Act.put,zq1,zq2,zq3]
 refine zqt 2 (some 4) ?v3 rfl rfl ?c3 hH ?r3
 case c3=>(intro w' _;go_simp;(try with_reducible rfl))
 try simp only [Act.put,zq1,zq2,zq3]
 refine zqt 3 (some 5) ?v4 rfl rfl ?c4 hH ?r4
 case c4=>(intro w' _;go_simp;(try with_reducible rfl))
 try simp only [Act.put,zq1,zq2,zq3]
 refine zqt 4 (some 6) ?v5 rfl rfl ?c5 hH ?r5
 case c5=>(intro w' hS;(try dsimp only at hS);go_simp;(try with_reducible rfl))
 try simp only [Act.put,zq1,zq2,zq3]
 refine zqt 5 (some 7) ?v6 rfl rfl ?c6 hH ?r6
 case c6=>(intro w' _;go_simp;(try with_reducible rfl))
 try simp only [Act.put,zq1,zq2,zq3]
 refine zqt 6 (some 8) ?v7 rfl rfl ?c7 hH ?r7
 case c7=>(intro w' _;go_simp;(try with_reducible rfl))
 try simp only [Act.put,zq1,zq2,zq3]
 refine zqt 7 (some 9) ?v8 rfl rfl ?c8 hH ?r8
 case c8=>(intro w' hS;(try dsimp only at hS);go_simp;(try with_reducible rfl))
 try simp only [Act.put,zq1,zq2,zq3]
 refine zqt 8 (some 10) ?v9 rfl rfl ?c9 hH ?r9
 case c9=>(intro w' _;go_simp;(try with_reducible rfl))
 try simp only [Act.put,zq1,zq2,zq3]
 refine zqt 9 (some 11) ?v10 rfl rfl ?c10 hH ?r10
 case c10=>(intro w' _;go_simp;(try with_reducible rfl))
 try simp only [Act.put,zq1,zq2,zq3]
 refine zqt 10 (some 12) ?v11 rfl rfl ?c11 hH ?r11
 case c11=>(intro w' _;go_simp;(try with_reducible rfl))
 try simp only [Act.put,zq1,zq2,zq3]
 refine zqt 11 (some 13) ?v12 rfl rfl ?c12 hH ?r12
 case c12=>(intro w' hS;(try dsimp only at hS);go_simp;(try with_reducible rfl))
 try simp only [Act.put,zq1,zq2,zq3]
 refine wpAnyH_ready (rs:=[12]) (by kernel_rfl) (by simp) (AllReadyH.cons rfl (fun K hK=>?_) (AllReadyH.nil))
 go_simp
 go_at_call 109
 refine (HY.out.drew.does (fun Om h=>Me.load_any h r.t 0 HL.out)).mono ?_
 rintro e w2 ⟨rfl,hy⟩
 refine hK.out _ _ (⟨hy.cell 0 (ptr b.B) (fun _ _=>rfl),hy.shared 18 (ptr b.mb) (fun _=>rfl),hy.cell 1 (.int .i64 r.t) (fun _ _=>rfl)⟩) (fun hH=>?_)
 clear hK K
 have H2:=Lib.hid hy
 have H3:=Lib.hid (hy.set (r':=ldG S r) 35 (.int .u64 (lookV S.ms 0)) (fun _ _=>rfl) rfl rfl)
 clear hy HY
 try simp only [Act.put,zq1,zq2,zq3]
 refine zqt 13 (some 15) ?v13 rfl rfl ?c13 hH ?r13
 case c13=>(intro w' _;go_simp;(try with_reducible rfl))
 try simp only [Act.put,zq1,zq2,zq3]
 refine zqt 14 (some 16) ?v14 rfl rfl ?c14 hH ?r14
 case c14=>(intro w' _;go_simp;(try with_reducible rfl))
 try simp only [Act.put,zq1,zq2,zq3]
 refine wpAnyH_ready (rs:=[15]) (by kernel_rfl) (by simp) (AllReadyH.cons rfl (fun K hK=>?_) (AllReadyH.nil))
 have f0:=H2.out.frozen 35
 have c0:=H2.out.cell 35 _ (fun _ _=>rfl)
 go_simp
 clear c0 f0
 refine hK.out _ _ (⟨H3.out.cell 0 (ptr b.B) (fun _ _=>rfl),H3.out.shared 18 (ptr b.mb) (fun _=>rfl),H3.out.cell 1 (.int .i64 r.t) (fun _ _=>rfl)⟩) (fun hH=>?_)
 clear hK K
 try simp only [Act.put,zq1,zq2,zq3]
 refine wpAnyH_done (by kernel_rfl) ?_ _
 clear hH
 go_wp2_with fail
 go_end0
 exact ⟨rfl,H3.out⟩
theorem swapGate_any (H:Y b S r W) (hr:Rm 0 S) (now:Int) (hn:W64 now):Calls Tryz.prog 111 #[ptr b.g,.int .u64 now] W (Yd b (.bool (swapB S.ms (0) r.wg)) (swS S r (0) r.wg now) r):=by
 have HN:=Lib.hid hn
 clear hn
 have HY:=Lib.hid H
 have HL:Hid (S.ms.ls.length<=1000000000000):=hr.l
 clear H hr
 go_enter Tryz.func111,Tryz.ntmps111
 go_wp2_with fail
 refine wp_region_held_drew (S:=fun w'=>w'.cell? ⟨b.g,0,none⟩=some (ptr b.B)/\w'.cell? ⟨b.B,18,none⟩=some (ptr b.mb)/\w'.cell? ⟨b.g,1,none⟩=some (.int .i64 r.t)/\w'.cell? ⟨b.g,35,none⟩=some (.int .u64 r.wg)) (by kernel_rfl) (⟨HY.out.drew.cell 0 (ptr b.B) (fun _ _=>rfl),HY.out.drew.shared 18 (ptr b.mb) (fun _=>rfl),HY.out.drew.cell 1 (.int .i64 r.t) (fun _ _=>rfl),HY.out.drew.cell 35 (.int .u64 r.wg) (fun _ _=>rfl)⟩) (fun hH=>?_)
 refine zqt 0 (some 5) ?v1 rfl rfl ?c1 hH ?r1
 case c1=>(intro w' _;go_simp;(try with_reducible rfl))
 try simp only [Act.put,zq1,zq2,zq3]
 refine zqt 1 (some 6) ?v2 rfl rfl ?c2 hH ?r2
 case c2=>(intro w' _;go_simp;(try with_reducible rfl))
 try simp only [Act.put,zq1,zq2,zq3]
 refine zqt 2 (some 7) ?v3 rfl rfl ?c3 hH ?r3
 case c3=>(intro w' _;go_simp;(try with_reducible rfl))
 try simp only [Act.put,zq1,zq2,zq3]
 refine zqt 3 (some 8) ?v4 rfl rfl ?c4 hH ?r4
 case c4=>(intro w' hS;(try dsimp only at hS);go_simp;(try with_reducible rfl))
 try simp only [Act.put,zq1,zq2,zq3]
 refine zqt 4 (some 9) ?v5 rfl rfl ?c5 hH ?r5
 case c5=>(intro w' _;go_simp;(try with_reducible rfl))
 try simp only [Act.put,zq1,zq2,zq3]
 refine zqt 5 (some 10) ?v6 rfl rfl ?c6 hH ?r6
 case c6=>(intro w' _;go_simp;(try with_reducible rfl))
 try simp only [Act.put,zq1,zq2,zq3]
 refine zqt 6 (some 11) ?v7 rfl rfl ?c7 hH ?r7
 case c7=>(intro w' hS;(try dsimp only at hS);go_simp;(try with_reducible rfl))
 try simp only [Act.put,zq1,zq2,zq3]
 refine zqt 7 (some 12) ?v8 rfl rfl ?c8 hH ?r8
 case c8=>(intro w' _;go_simp;(try with_reducible rfl))
 try simp only [Act.put,zq1,zq2,zq3]
 refine zqt 8 (some 13) ?v9 rfl rfl ?c9 hH ?r9
 case c9=>(intro w' _;go_simp;(try with_reducible rfl))
 try simp only [Act.put,zq1,zq2,zq3]
 refine zqt 9 (some 14) ?v10 rfl rfl ?c10 hH ?r10
 case c10=>(intro w' _;go_simp;(try with_reducible rfl))
 try simp only [Act.put,zq1,zq2,zq3]
 refine zqt 10 (some 15) ?v11 rfl rfl ?c11 hH ?r11
 case c11=>(intro w' hS;(try dsimp only at hS);go_simp;(try with_reducible rfl))
 try simp only [Act.put,zq1,zq2,zq3]
 refine zqt 11 (some 16) ?v12 rfl rfl ?c12 hH ?r12
 case c12=>(intro w' _;go_simp;(try with_reducible rfl))
 try simp only [Act.put,zq1,zq2,zq3]
 refine zqt 12 (some 17) ?v13 rfl rfl ?c13 hH ?r13
 case c13=>(intro w' _;go_simp;(try with_reducible rfl))
 try simp only [Act.put,zq1,zq2,zq3]
 refine zqt 13 (some 18) ?v14 rfl rfl ?c14 hH ?r14
 case c14=>(intro w' _;go_simp;(try with_reducible rfl))
 try simp only [Act.put,zq1,zq2,zq3]
 refine zqt 14 (some 19) ?v15 rfl rfl ?c15 hH ?r15
 case c15=>(intro w' hS;(try dsimp only at hS);go_simp;(try with_reducible rfl))
 try simp only [Act.put,zq1,zq2,zq3]
 refine zqt 15 (some 20) ?v16 rfl rfl ?c16 hH ?r16
 case c16=>(intro w' _;go_simp;(try with_reducible rfl))
 try simp only [Act.put,zq1,zq2,zq3]
 refine wpAnyH_ready (rs:=[16]) (by kernel_rfl) (by simp) (AllReadyH.cons rfl (fun K hK=>?_) (AllReadyH.nil))
 go_simp
 go_at_call 154
 refine (HY.out.drew.does (fun Om h=>Me.swap_any h r.t (0) r.wg now HN.out HL.out)).mono ?_
 rintro e w2 ⟨rfl,hy⟩
 refine hK.out _ _ (⟨hy.cell 0 (ptr b.B) (fun _ _=>rfl),hy.shared 18 (ptr b.mb) (fun _=>rfl),hy.cell 1 (.int .i64 r.t) (fun _ _=>rfl),hy.cell 35 (.int .u64 r.wg) (fun _ _=>rfl)⟩) (fun hH=>?_)
 clear hK K
 have H2:=Lib.hid hy
 clear hy HY
 try simp only [Act.put,zq1,zq2,zq3]
 refine zqt 17 (some 4) ?v17 rfl rfl ?c17 hH ?r17
 case c17=>(intro w' _;go_simp;(try with_reducible rfl))
 try simp only [Act.put,zq1,zq2,zq3]
 refine wpAnyH_done (by kernel_rfl) ?_ _
 clear hH
 go_wp2_with fail
 go_ret
 exact ⟨rfl,H2.out⟩
theorem unpackG {x:Int} (h:W64 x) (W:World) (he:Env W):Calls Tryz.prog 46 #[.int .u64 x] W fun e w'=>e = .returned (.agg #[.int .i64 (vG x),.int .i64 (kG x),.int .i64 (cG x)])/\Below W.heap.size W w':=by
 have:=Ga.unpack_any (fitG h) W he.ga
 rwa [← isG h] at this
theorem below_drews {W w':World} (h:∃ n,w'=W.drewN n):Below W.heap.size W w':=by
 obtain ⟨n,rfl⟩:=h
 exact (Below.refl _ W).drews n
theorem tickG {x:Int} (h:W64 x) (n:Int) (h0 : -9223372036854775808<=n) (h1:n<=9223372036854775807) (W:World) (he:Env W):Calls Tryz.prog 110 #[.int .u64 x,.int .i64 n] W fun e w'=>e = .returned (.int .u64 (tickW x n))/\Below W.heap.size W w':=by
 have:=Ga.tick_any (fitG h) h0 h1 W he.ga
 rw [← isG h] at this
 exact this.mono fun e w' h=>⟨h.1,below_drews h.2⟩
end
end Pg
end Go.Proofs.YtcockldefmmhbaaGreatDoor
set_option linter.unusedVariables false
set_option linter.unusedSimpArgs false
set_option maxRecDepth 100000
namespace Go.Proofs.YtcockldefmmhbaaGreatDoor
open Go.ChangeShapes Go.WideShapes Go.ChangeAt Go.RowKit Go.Mtl Go.Lib
namespace Pg
open MemM (Ms lookV loadS swapB swapS holdV lockB lockS unlockS touchS moreS)
open RulM (R)
open AutM (Ke)
open Me (ptr)
open Tb (TAt TM Fw)
section
variable {b:Bs} {W:World} {S:Sh} {r:Rn}
theorem gate_c (a b c:Int) (w:World):(Instr.field 45 (.agg #[.int .i64 a,.int .i64 b,.int .i64 c]) 2).run Tryz.prog w = .ok (.int .i64 c) w:=by kernel_rfl
end
end Pg
end Go.Proofs.YtcockldefmmhbaaGreatDoor
set_option linter.unusedVariables false
set_option linter.unusedSimpArgs false
set_option maxRecDepth 100000
namespace Go.Proofs.YtcockldefmmhbaaGreatDoor
open Go.ChangeShapes Go.WideShapes Go.ChangeAt Go.RowKit Go.Mtl Go.Lib
namespace Pg
open MemM (Ms lookV loadS swapB swapS holdV lockB lockS unlockS touchS moreS)
open RulM (R)
open AutM (Ke)
open Me (ptr)
open Tb (TAt TM Fw)
section
variable {b:Bs} {W:World} {Om Ot K:Nat->Prop} {pv lv kv:Value} {S:Sh} {r:Rn} {g:Nat}
abbrev rpc (e v n:Int):Array Value:=#[.int .i64 e,.int .i64 v,.int .i64 n]
def doneV (r:Rn):Value:=if r.en then .tuple #[.agg (rpc r.e r.v r.n),.bool true] else .tuple #[.agg (rpc 0 0 0),.bool false]
theorem below_box (w:World) (o:Obj):Below w.heap.size w (w.alloc o):=(Below.refl _ w).alloc (Nat.le_refl _) o
theorem done_any (H:RB b Om Ot K pv g lv kv r W):Calls Tryz.prog 17 #[ptr g] W fun e w'=>e = .returned (doneV r)/\Below W.heap.size W w':=by
 have H1:=H.next (below_box W (.cells (rpc 0 0 0) 49))
 have y6:=H1.run.cell 6 (.bool r.en) rfl
 have y7:=H1.run.cell 7 (.int .i64 r.e) rfl
 have y8:=H1.run.cell 8 (.int .i64 r.v) rfl
 have y9:=H1.run.cell 9 (.int .i64 r.n) rfl
 clear H H1
 unfold doneV
 cases he:r.en with
 | false =>
  rw [he] at y6
  clear he
  go_enter Tryz.func17,Tryz.ntmps17
  go_wp2_with fail
  have HR:=Blk.box W (rpc 0 0 0) 49
  have r0:=HR.cell 0 _ rfl
  have r1:=HR.cell 1 _ rfl
  have r2:=HR.cell 2 _ rfl
  exact bodyPost_ret (v:=.tuple #[.agg (rpc 0 0 0),.bool false]) (by simp [results,Tryz.results17,go_sem,r0,r1,r2]) rfl ⟨rfl,below_box W _⟩
 | true =>
  rw [he] at y6
  clear he
  go_enter Tryz.func17,Tryz.ntmps17
  go_wp2_with fail
  have HR:=Blk.box W (rpc r.e r.v r.n) 49
  have r0:=HR.cell 0 _ rfl
  have r1:=HR.cell 1 _ rfl
  have r2:=HR.cell 2 _ rfl
  exact bodyPost_ret (v:=.tuple #[.agg (rpc r.e r.v r.n),.bool true]) (by simp [results,Tryz.results17,go_sem,r0,r1,r2]) rfl ⟨rfl,below_box W _⟩
theorem done_nil (W:World):Calls Tryz.prog 17 #[.pointer none] W fun e w'=>e = .returned (.tuple #[.agg (rpc 0 0 0),.bool false])/\Below W.heap.size W w':=by
 go_enter Tryz.func17,Tryz.ntmps17
 go_wp2_with fail
 have HR:=Blk.box W (rpc 0 0 0) 49
 have r0:=HR.cell 0 _ rfl
 have r1:=HR.cell 1 _ rfl
 have r2:=HR.cell 2 _ rfl
 exact bodyPost_ret (v:=.tuple #[.agg (rpc 0 0 0),.bool false]) (by simp [results,Tryz.results17,go_sem,r0,r1,r2]) rfl ⟨rfl,below_box W _⟩
theorem SR.env (H:SR b Om Ot K pv S W) (he:Env b.w0):Env W:=he.below H.bel
theorem SR.word (H:SR b Om Ot K pv S W) (i:Int):W64 (lookV S.ms i):=by
 have h:=H.mem.2
 unfold MemM.lookV
 split
 ·rename_i hb
  obtain ⟨j,rfl,hj⟩:=MemM.has_yes hb
  exact h.wat hj
 ·exact ⟨by omega,by omega⟩
abbrev gtc (v k c:Int):Array Value:=#[.int .i64 v,.int .i64 k,.int .i64 c]
theorem gate_any (H:SR b Om Ot K pv S W) (he:Env b.w0):Calls Tryz.prog 16 #[ptr b.B] W fun e w'=>e = .returned (.agg (gtc (vG (lookV S.ms 0)) (kG (lookV S.ms 0)) (cG (lookV S.ms 0))))/\Below W.heap.size W w':=by
 have H1:=Lib.hid (H.next (below_box W (.cells (gtc 0 0 0) 45)))
 have HW:=Lib.hid (H.word 0)
 have HE:=Lib.hid he
 have y0:=H1.out.blk.cell 18 (ptr b.mb) rfl
 have HZ:=Lib.hid (Blk.box W (gtc 0 0 0) 45)
 have HB:=Lib.hid (below_box W (.cells (gtc 0 0 0) 45))
 clear H he
 go_enter Tryz.func16,Tryz.ntmps16
 go_wp2_with fail
 go_at_call 47
 refine (Me.look_any H1.out.mem 0).mono ?_
 rintro e w1 ⟨rfl,rfl⟩
 clear y0
 go_wp2_with fail
 go_at_call 46
 refine (unpackG HW.out _ (H1.out.env HE.out)).mono ?_
 rintro e w2 ⟨rfl,hb⟩
 have HB2:=Lib.hid (HB.out.trans (hb.mono HB.out.size))
 have HZ2:=Lib.hid (HZ.out.next hb)
 clear hb HZ HB H1
 have f0:=HZ2.out.frozen 0
 have f1:=HZ2.out.frozen 1
 have f2:=HZ2.out.frozen 2
 have c0:=HZ2.out.cell 0 _ rfl
 have c1:=HZ2.out.cell 1 _ rfl
 have c2:=HZ2.out.cell 2 _ rfl
 go_wp2_with fail
 have h0:=HZ2.out.set' 0 (.int .i64 (vG (lookV S.ms 0))) (cs':=gtc (vG (lookV S.ms 0)) 0 0) rfl
 have h1:=h0.set' 1 (.int .i64 (kG (lookV S.ms 0))) (cs':=gtc (vG (lookV S.ms 0)) (kG (lookV S.ms 0)) 0) rfl
 have h2:=h1.set' 2 (.int .i64 (cG (lookV S.ms 0))) (cs':=gtc (vG (lookV S.ms 0)) (kG (lookV S.ms 0)) (cG (lookV S.ms 0))) rfl
 have r0:=h2.cell 0 _ rfl
 have r1:=h2.cell 1 _ rfl
 have r2:=h2.cell 2 _ rfl
 exact bodyPost_ret (v:=.agg (gtc (vG (lookV S.ms 0)) (kG (lookV S.ms 0)) (cG (lookV S.ms 0)))) (by simp [results,Tryz.results16,go_sem,r0,r1,r2]) rfl ⟨rfl,((HB2.out.setCell (p:=⟨W.heap.size,0,none⟩) (Nat.le_refl _) _).setCell (p:=⟨W.heap.size,1,none⟩) (Nat.le_refl _) _).setCell (p:=⟨W.heap.size,2,none⟩) (Nat.le_refl _) _⟩
theorem gate_nil (W:World):Calls Tryz.prog 16 #[.pointer none] W fun e w'=>e = .returned (.agg (gtc 0 0 0))/\Below W.heap.size W w':=by
 go_enter Tryz.func16,Tryz.ntmps16
 go_wp2_with fail
 have HR:=Blk.box W (gtc 0 0 0) 45
 have r0:=HR.cell 0 _ rfl
 have r1:=HR.cell 1 _ rfl
 have r2:=HR.cell 2 _ rfl
 exact bodyPost_ret (v:=.agg (gtc 0 0 0)) (by simp [results,Tryz.results16,go_sem,r0,r1,r2]) rfl ⟨rfl,below_box W _⟩
theorem log_any (H:SR b Om Ot K pv S W) (hl:S.ms.ls.length<=1000000000000):Calls Tryz.prog 20 #[ptr b.B] W (Me.Cloned W S.ms.ls):=by
 have HL:=Lib.hid (Me.log_any H.mem hl)
 have y0:=H.blk.cell 18 (ptr b.mb) rfl
 clear H hl
 go_enter Tryz.func20,Tryz.ntmps20
 go_wp2_with fail
 go_at_call 49
 refine HL.out.mono ?_
 rintro e w1 ⟨v,rfl,h1,h2,h3⟩
 have HV:Hid (Me.Acs w1 w1.heap.size v S.ms.ls/\(∀ g,v.ownBlock=some g->W.heap.size<=g)/\Below W.heap.size W w1):=⟨h1,h2,h3⟩
 clear h1 h2 h3 y0 HL
 go_wp2_with fail
 go_ret
 exact ⟨v,rfl,HV.out⟩
theorem log_nil (W:World):Calls Tryz.prog 20 #[.pointer none] W fun e w'=>e = .returned (.slice none 0 0)/\W=w':=by
 go_enter Tryz.func20,Tryz.ntmps20
 go_wp2_with fail
 go_ret
 exact ⟨rfl,rfl⟩
theorem keys_nil (W:World):Calls Tryz.prog 15 #[.pointer none] W fun e w'=>e = .returned (.slice none 0 0)/\W=w':=by
 go_enter Tryz.func15,Tryz.ntmps15
 go_wp2_with fail
 go_ret
 exact ⟨rfl,rfl⟩
theorem points_nil (W:World):Calls Tryz.prog 19 #[.pointer none] W fun e w'=>e = .returned (.slice none 0 0)/\W=w':=by
 go_enter Tryz.func19,Tryz.ntmps19
 go_wp2_with fail
 go_ret
 exact ⟨rfl,rfl⟩
theorem blocked_nil (W:World):Calls Tryz.prog 18 #[.pointer none] W fun e w'=>e = .returned (.bool false)/\Below W.heap.size W w':=by
 go_enter Tryz.func18,Tryz.ntmps18
 go_wp2_with fail
 refine wp_region_held_drew (S:=fun w'=>Hid (Below W.heap.size W w')) (by kernel_rfl) (Lib.hid (Below.refl _ W).drew) (fun hH=>?_)
 refine zqt 0 (some 3) ?v1 rfl rfl ?c1 hH ?r1
 case c1=>(intro w' _;go_simp;(try with_reducible rfl))
 try simp only [Act.put,zq1,zq2,zq3]
 refine zqt 1 (some 4) ?v2 rfl rfl ?c2 hH ?r2
 case c2=>(intro w' _;go_simp;(try with_reducible rfl))
 try simp only [Act.put,zq1,zq2,zq3]
 refine zqt 2 (some 5) ?v3 rfl rfl ?c3 hH ?r3
 case c3=>(intro w' _;go_simp;(try with_reducible rfl))
 try simp only [Act.put,zq1,zq2,zq3]
 refine zqp 3 (some 6) rfl rfl hH ?_
 try simp only [Act.put,zq1,zq2,zq3]
 refine zqp 4 (some 7) rfl rfl hH ?_
 try simp only [Act.put,zq1,zq2,zq3]
 refine zqp 5 (some 8) rfl rfl hH ?_
 try simp only [Act.put,zq1,zq2,zq3]
 refine zqp 6 (some 9) rfl rfl hH ?_
 try simp only [Act.put,zq1,zq2,zq3]
 refine zqp 7 (some 10) rfl rfl hH ?_
 try simp only [Act.put,zq1,zq2,zq3]
 refine zqt 8 (some 11) ?v9 rfl rfl ?c9 hH ?r9
 case c9=>(intro w' _;go_simp;(try with_reducible rfl))
 try simp only [Act.put,zq1,zq2,zq3]
 refine zqt 9 (some 12) ?v10 rfl rfl ?c10 hH ?r10
 case c10=>(intro w' _;go_simp;(try with_reducible rfl))
 try simp only [Act.put,zq1,zq2,zq3]
 refine zqp 10 (some 13) rfl rfl hH ?_
 try simp only [Act.put,zq1,zq2,zq3]
 refine zqp 11 (some 14) rfl rfl hH ?_
 try simp only [Act.put,zq1,zq2,zq3]
 refine zqp 12 (some 15) rfl rfl hH ?_
 try simp only [Act.put,zq1,zq2,zq3]
 refine zqp 13 (some 16) rfl rfl hH ?_
 try simp only [Act.put,zq1,zq2,zq3]
 refine zqp 14 (some 17) rfl rfl hH ?_
 try simp only [Act.put,zq1,zq2,zq3]
 refine zqp 15 (some 18) rfl rfl hH ?_
 try simp only [Act.put,zq1,zq2,zq3]
 refine zqp 16 (some 19) rfl rfl hH ?_
 try simp only [Act.put,zq1,zq2,zq3]
 refine zqp 17 (some 20) rfl rfl hH ?_
 try simp only [Act.put,zq1,zq2,zq3]
 refine zqp 18 (some 21) rfl rfl hH ?_
 try simp only [Act.put,zq1,zq2,zq3]
 refine zqp 19 (some 22) rfl rfl hH ?_
 try simp only [Act.put,zq1,zq2,zq3]
 refine zqp 20 (some 23) rfl rfl hH ?_
 try simp only [Act.put,zq1,zq2,zq3]
 refine zqp 21 (some 24) rfl rfl hH ?_
 try simp only [Act.put,zq1,zq2,zq3]
 refine zqp 22 (some 25) rfl rfl hH ?_
 try simp only [Act.put,zq1,zq2,zq3]
 refine zqt 23 (some 26) ?v24 rfl rfl ?c24 hH ?r24
 case c24=>(intro w' _;go_simp;(try with_reducible rfl))
 try simp only [Act.put,zq1,zq2,zq3]
 refine zqt 24 (some 2) ?v25 rfl rfl ?c25 hH ?r25
 case c25=>(intro w' _;go_simp;(try with_reducible rfl))
 try simp only [Act.put,zq1,zq2,zq3]
 refine wpAnyH_done (by kernel_rfl) ?_ _
 have HB:=Lib.hid hH.out
 clear hH
 go_wp2_with fail
 go_ret
 exact ⟨rfl,HB.out⟩
theorem step_nil (W:World):Calls Tryz.prog 14 #[.pointer none] W fun e w'=>e = .returned (.bool false)/\W=w':=by
 go_enter Tryz.func14,Tryz.ntmps14
 go_wp2_with fail
 go_ret
 exact ⟨rfl,rfl⟩
theorem stat_nil (v:Int) (W:World):Calls Tryz.prog 21 #[.pointer none,.int .i64 v] W fun e w'=>e = .returned (.int .u64 0)/\W=w':=by
 go_enter Tryz.func21,Tryz.ntmps21
 go_wp2_with fail
 go_ret
 exact ⟨rfl,rfl⟩
end
end Pg
end Go.Proofs.YtcockldefmmhbaaGreatDoor
set_option linter.unusedVariables false
set_option linter.unusedSimpArgs false
set_option maxRecDepth 100000
namespace Go.Proofs.YtcockldefmmhbaaGreatDoor
open Go.ChangeShapes Go.WideShapes Go.ChangeAt Go.RowKit Go.Mtl Go.Lib
namespace Pg
open MemM (Ms lookV loadS swapB swapS holdV lockB lockS unlockS touchS moreS)
open RulM (R)
open AutM (Ke)
open Me (ptr)
open Tb (TAt TM Fw)
abbrev ptx (kd t o a c p q u v n:Int):Array Value:=#[.int .i64 kd,.int .i64 t,.int .i64 o,.int .u32 a,.int .u32 c,.int .u16 p,.int .u16 q,.int .u8 u,.int .i64 v,.int .i64 n]
abbrev storePt (w:World) (g:Nat) (kd t o a c p q u v n:Int):World:=((((((((((w.setCell ⟨g,0,none⟩ (.int .i64 kd)).setCell ⟨g,1,none⟩ (.int .i64 t)).setCell ⟨g,2,none⟩ (.int .i64 o)).setCell ⟨g,3,none⟩ (.int .u32 a)).setCell ⟨g,4,none⟩ (.int .u32 c)).setCell ⟨g,5,none⟩ (.int .u16 p)).setCell ⟨g,6,none⟩ (.int .u16 q)).setCell ⟨g,7,none⟩ (.int .u8 u)).setCell ⟨g,8,none⟩ (.int .i64 v)).setCell ⟨g,9,none⟩ (.int .i64 n))
section
variable {w w0:World} {g:Nat} {ty:TypeId}
theorem pt_store {kd0 t0 o0 a0 c0 p0 q0 u0 v0 n0:Int} (H:Blk w g (ptx kd0 t0 o0 a0 c0 p0 q0 u0 v0 n0) ty) (kd t o a c p q u v n:Int):Blk (storePt w g kd t o a c p q u v n) g (ptx kd t o a c p q u v n) ty:=by
 have h0:=H.set' 0 (.int .i64 kd) (cs':=ptx kd t0 o0 a0 c0 p0 q0 u0 v0 n0) rfl
 have h1:=h0.set' 1 (.int .i64 t) (cs':=ptx kd t o0 a0 c0 p0 q0 u0 v0 n0) rfl
 have h2:=h1.set' 2 (.int .i64 o) (cs':=ptx kd t o a0 c0 p0 q0 u0 v0 n0) rfl
 have h3:=h2.set' 3 (.int .u32 a) (cs':=ptx kd t o a c0 p0 q0 u0 v0 n0) rfl
 have h4:=h3.set' 4 (.int .u32 c) (cs':=ptx kd t o a c p0 q0 u0 v0 n0) rfl
 have h5:=h4.set' 5 (.int .u16 p) (cs':=ptx kd t o a c p q0 u0 v0 n0) rfl
 have h6:=h5.set' 6 (.int .u16 q) (cs':=ptx kd t o a c p q u0 v0 n0) rfl
 have h7:=h6.set' 7 (.int .u8 u) (cs':=ptx kd t o a c p q u v0 n0) rfl
 have h8:=h7.set' 8 (.int .i64 v) (cs':=ptx kd t o a c p q u v n0) rfl
 have h9:=h8.set' 9 (.int .i64 n) (cs':=ptx kd t o a c p q u v n) rfl
 exact h9
theorem below_storePt {B:Nat} (hb:Below B w0 w) (hg:B<=g) (kd t o a c p q u v n:Int):Below B w0 (storePt w g kd t o a c p q u v n):=((((((((((hb.setCell (p:=⟨g,0,none⟩) hg _).setCell (p:=⟨g,1,none⟩) hg _).setCell (p:=⟨g,2,none⟩) hg _).setCell (p:=⟨g,3,none⟩) hg _).setCell (p:=⟨g,4,none⟩) hg _).setCell (p:=⟨g,5,none⟩) hg _).setCell (p:=⟨g,6,none⟩) hg _).setCell (p:=⟨g,7,none⟩) hg _).setCell (p:=⟨g,8,none⟩) hg _).setCell (p:=⟨g,9,none⟩) hg _)
theorem pt_cells {kd t o a c p q u v n:Int} (H:Blk w g (ptx kd t o a c p q u v n) ty):w.cell? ⟨g,0,none⟩=some (.int .i64 kd)/\w.cell? ⟨g,1,none⟩=some (.int .i64 t)/\w.cell? ⟨g,2,none⟩=some (.int .i64 o)/\w.cell? ⟨g,3,none⟩=some (.int .u32 a)/\w.cell? ⟨g,4,none⟩=some (.int .u32 c)/\w.cell? ⟨g,5,none⟩=some (.int .u16 p)/\w.cell? ⟨g,6,none⟩=some (.int .u16 q)/\w.cell? ⟨g,7,none⟩=some (.int .u8 u)/\w.cell? ⟨g,8,none⟩=some (.int .i64 v)/\w.cell? ⟨g,9,none⟩=some (.int .i64 n):=⟨H.cell 0 _ rfl,H.cell 1 _ rfl,H.cell 2 _ rfl,H.cell 3 _ rfl,H.cell 4 _ rfl,H.cell 5 _ rfl,H.cell 6 _ rfl,H.cell 7 _ rfl,H.cell 8 _ rfl,H.cell 9 _ rfl⟩
theorem pt_frozen {kd t o a c p q u v n:Int} (H:Blk w g (ptx kd t o a c p q u v n) ty):w.frozen? ⟨g,0,none⟩=false/\w.frozen? ⟨g,1,none⟩=false/\w.frozen? ⟨g,2,none⟩=false/\w.frozen? ⟨g,3,none⟩=false/\w.frozen? ⟨g,4,none⟩=false/\w.frozen? ⟨g,5,none⟩=false/\w.frozen? ⟨g,6,none⟩=false/\w.frozen? ⟨g,7,none⟩=false/\w.frozen? ⟨g,8,none⟩=false/\w.frozen? ⟨g,9,none⟩=false:=⟨H.frozen 0,H.frozen 1,H.frozen 2,H.frozen 3,H.frozen 4,H.frozen 5,H.frozen 6,H.frozen 7,H.frozen 8,H.frozen 9⟩
end
section
variable {b:Bs} {W:World} {S:Sh} {r:Rn}
theorem Y.lt (H:Y b S r W):b.g < W.heap.size:=by
 obtain ⟨Om,Ot,K,pv,lv,kv,H⟩:=H
 exact H.run.lt
set_option maxHeartbeats 2000000 in
theorem own_any (H:Y b S r W) (kd t o a c p q u v n:Int):Calls Tryz.prog 83 #[ptr b.g,.agg #[.int .i64 kd,.int .i64 t,.int .i64 o,.int .u32 a,.int .u32 c,.int .u16 p,.int .u16 q,.int .u8 u,.int .i64 v,.int .i64 n]] W fun e w'=>e = .returned (.agg (ptx kd r.t r.op a c p q u v n))/\Below W.heap.size W w':=by
 have HX:=Lib.hid ((Blk.box W (ptx kd t o a c p q u v n) 89).alloc (.cells (ptx 0 0 0 0 0 0 0 0 0 0) 89))
 have HZ:=Lib.hid (Blk.box1 W (.cells (ptx kd t o a c p q u v n) 89) (ptx 0 0 0 0 0 0 0 0 0 0) 89)
 have HB:=Lib.hid (((Below.refl _ W).alloc (Nat.le_refl _) (.cells (ptx kd t o a c p q u v n) 89)).alloc (by simp) (.cells (ptx 0 0 0 0 0 0 0 0 0 0) 89))
 have HY:=Lib.hid H
 clear H
 go_enter Tryz.func83,Tryz.ntmps83
 go_wp2_with fail
 obtain ⟨W2,hW2⟩:∃ VV,(W.alloc (.cells (ptx kd t o a c p q u v n) 89)).alloc (.cells (ptx 0 0 0 0 0 0 0 0 0 0) 89)=VV:=⟨_,rfl⟩
 rw [hW2] at HX HZ HB ⊢
 obtain ⟨g,hg⟩:∃ v,W.heap.size=v:=⟨_,rfl⟩
 have HG:Hid (W.heap.size<=g):=Nat.le_of_eq hg
 have HG2:Hid (W.heap.size<=g+1):=by show _<=_;omega
 rw [hg] at HX HZ ⊢
 clear hW2 hg
 refine wp_region_held_drew (S:=fun w'=>w'.cell? ⟨b.g,1,none⟩=some (.int .i64 r.t)/\w'.cell? ⟨b.g,2,none⟩=some (.int .i64 r.op)) (by kernel_rfl) (⟨(HY.out.next HB.out.drew).cell 1 (.int .i64 r.t) (fun _ _=>rfl),(HY.out.next HB.out.drew).cell 2 (.int .i64 r.op) (fun _ _=>rfl)⟩) (fun hH=>?_)
 refine zqt 0 (some 5) ?v1 rfl rfl ?c1 hH ?r1
 case c1=>(intro w' _;go_simp;(try with_reducible rfl))
 try simp only [Act.put,zq1,zq2,zq3]
 refine zqt 1 (some 6) ?v2 rfl rfl ?c2 hH ?r2
 case c2=>(intro w' _;go_simp;(try with_reducible rfl))
 try simp only [Act.put,zq1,zq2,zq3]
 refine zqt 2 (some 7) ?v3 rfl rfl ?c3 hH ?r3
 case c3=>(intro w' _;go_simp;(try with_reducible rfl))
 try simp only [Act.put,zq1,zq2,zq3]
 refine zqt 3 (some 8) ?v4 rfl rfl ?c4 hH ?r4
 case c4=>(intro w' hS;(try dsimp only at hS);go_simp;(try with_reducible rfl))
 try simp only [Act.put,zq1,zq2,zq3]
 refine zqt 4 (some 9) ?v5 rfl rfl ?c5 hH ?r5
 case c5=>(intro w' _;go_simp;(try with_reducible rfl))
 try simp only [Act.put,zq1,zq2,zq3]
 refine zqt 5 (some 10) ?v6 rfl rfl ?c6 hH ?r6
 case c6=>(intro w' _;go_simp;(try with_reducible rfl))
 try simp only [Act.put,zq1,zq2,zq3]
 refine zqt 6 (some 11) ?v7 rfl rfl ?c7 hH ?r7
 case c7=>(intro w' _;go_simp;(try with_reducible rfl))
 try simp only [Act.put,zq1,zq2,zq3]
 refine zqt 7 (some 12) ?v8 rfl rfl ?c8 hH ?r8
 case c8=>(intro w' hS;(try dsimp only at hS);go_simp;(try with_reducible rfl))
 try simp only [Act.put,zq1,zq2,zq3]
 refine zqt 8 (some 13) ?v9 rfl rfl ?c9 hH ?r9
 case c9=>(intro w' _;go_simp;(try with_reducible rfl))
 try simp only [Act.put,zq1,zq2,zq3]
 refine wpAnyH_ready (rs:=[9]) (by kernel_rfl) (by simp) (AllReadyH.cons rfl (fun K hK=>?_) (AllReadyH.nil))
 obtain ⟨W2d,hd⟩:∃ VV,W2.drew=VV:=⟨_,rfl⟩
 have HX1:Hid (Blk W2d g (ptx kd t o a c p q u v n) 89):=hd ▸ Lib.hid HX.out.drew
 have HZ1:Hid (Blk W2d (g+1) (ptx 0 0 0 0 0 0 0 0 0 0) 89):=hd ▸ Lib.hid HZ.out.drew
 have HB1:Hid (Below W.heap.size W W2d):=hd ▸ Lib.hid HB.out.drew
 rw [hd] at hH ⊢
 clear hd HX HZ HB
 have c1:=HX1.out.cell 1 _ rfl
 have f1:=HX1.out.frozen 1
 go_simp
 clear c1 f1
 refine hK.out _ _ (⟨(HY.out.next (HB1.out.setCell (p:=⟨g,1,none⟩) HG.out _)).cell 1 (.int .i64 r.t) (fun _ _=>rfl),(HY.out.next (HB1.out.setCell (p:=⟨g,1,none⟩) HG.out _)).cell 2 (.int .i64 r.op) (fun _ _=>rfl)⟩) (fun hH=>?_)
 clear hK K
 have HX2:=Lib.hid (HX1.out.set' 1 (.int .i64 r.t) (cs':=ptx kd r.t o a c p q u v n) rfl)
 have HB2:=Lib.hid (HB1.out.setCell (p:=⟨g,1,none⟩) HG.out (.int .i64 r.t))
 have HZ2:=Lib.hid (HZ1.out.other g 1 (by omega) (.int .i64 r.t))
 generalize W2d.setCell ⟨g,1,none⟩ (.int .i64 r.t)=W3 at hH HX2 HB2 HZ2 ⊢
 clear HX1 HB1 HZ1
 try simp only [Act.put,zq1,zq2,zq3]
 refine zqt 10 (some 14) ?v10 rfl rfl ?c10 hH ?r10
 case c10=>(intro w' _;go_simp;(try with_reducible rfl))
 try simp only [Act.put,zq1,zq2,zq3]
 refine wpAnyH_ready (rs:=[11]) (by kernel_rfl) (by simp) (AllReadyH.cons rfl (fun K hK=>?_) (AllReadyH.nil))
 have c1:=HX2.out.cell 2 _ rfl
 have f1:=HX2.out.frozen 2
 go_simp
 clear c1 f1
 refine hK.out _ _ (⟨(HY.out.next (HB2.out.setCell (p:=⟨g,2,none⟩) HG.out _)).cell 1 (.int .i64 r.t) (fun _ _=>rfl),(HY.out.next (HB2.out.setCell (p:=⟨g,2,none⟩) HG.out _)).cell 2 (.int .i64 r.op) (fun _ _=>rfl)⟩) (fun hH=>?_)
 clear hK K
 have HX3:=Lib.hid (HX2.out.set' 2 (.int .i64 r.op) (cs':=ptx kd r.t r.op a c p q u v n) rfl)
 have HB3:=Lib.hid (HB2.out.setCell (p:=⟨g,2,none⟩) HG.out (.int .i64 r.op))
 have HZ3:=Lib.hid (HZ2.out.other g 2 (by omega) (.int .i64 r.op))
 generalize W3.setCell ⟨g,2,none⟩ (.int .i64 r.op)=W4 at hH HX3 HB3 HZ3 ⊢
 clear HX2 HB2 HZ2
 try simp only [Act.put,zq1,zq2,zq3]
 refine wpAnyH_done (by kernel_rfl) ?_ _
 clear hH
 obtain ⟨x0,x1,x2,x3,x4,x5,x6,x7,x8,x9⟩:=pt_cells HX3.out
 obtain ⟨f0,f1,f2,f3,f4,f5,f6,f7,f8,f9⟩:=pt_frozen HZ3.out
 obtain ⟨y0,y1,y2,y3,y4,y5,y6,y7,y8,y9⟩:=pt_cells HZ3.out
 go_wp2_with fail
 have HR:=pt_store HZ3.out kd r.t r.op a c p q u v n
 obtain ⟨r0,r1,r2,r3,r4,r5,r6,r7,r8,r9⟩:=pt_cells HR
 exact bodyPost_ret (v:=.agg (ptx kd r.t r.op a c p q u v n)) (by simp [results,Tryz.results83,go_sem,r0,r1,r2,r3,r4,r5,r6,r7,r8,r9]) rfl ⟨rfl,below_storePt HB3.out HG2.out kd r.t r.op a c p q u v n⟩
theorem pt_info:(Tryz.prog.info? 89).map (fun i=>(i.zero,i.size,i.bytes))=some (some (.agg (ptx 0 0 0 0 0 0 0 0 0 0)),10,56):=by kernel_rfl
theorem YR.grown {Om Ot K:Nat->Prop} {pv lv kv:Value} {w':World} (H:YR b Om Ot K pv lv kv S r W) (hg:W.grownBy w' pv.ownBlock):w'.cell? ⟨b.g,0,none⟩=some (ptr b.B)/\w'.cell? ⟨b.B,21,none⟩=some pv/\w'.frozen? ⟨b.B,21,none⟩=false/\Only (fun j=>pv.ownBlock=some j) W w':=by
 have ho:Only (fun j=>pv.ownBlock=some j) W w':=Only.grown hg fun k e=>e
 have h1:=H.run.only ho fun e=>H.dg (.inr (.inr (.inr (.inr e))))
 have h2:=H.blk.only ho fun e=>(H.dp _ e).2.2.1 rfl
 exact ⟨h1.cell 0 _ rfl,h2.cell 21 _ rfl,h2.frozen 21,ho⟩
theorem pts_le {Om Ot K:Nat->Prop} {pv lv kv:Value} (H:YR b Om Ot K pv lv kv S r W):b.w0.heap.size<=W.heap.size:=H.bel.size
set_option maxHeartbeats 2000000 in
theorem record_any (H:Y b S r W) (hr:Rm 0 S) (kd:Int) (k:Ke) (v n:Int):Calls Tryz.prog 44 #[ptr b.g,.agg #[.int .i64 kd,.int .i64 0,.int .i64 0,.int .u32 (k.a:Int),.int .u32 (k.b:Int),.int .u16 (k.p:Int),.int .u16 (k.q:Int),.int .u8 (k.r:Int),.int .i64 v,.int .i64 n]] W (Yd b U (say S r kd k v n) r):=by
 have HOW:Hid (∀ W',Y b S r W'->Calls Tryz.prog 83 #[ptr b.g,.agg #[.int .i64 kd,.int .i64 0,.int .i64 0,.int .u32 (k.a:Int),.int .u32 (k.b:Int),.int .u16 (k.p:Int),.int .u16 (k.q:Int),.int .u8 (k.r:Int),.int .i64 v,.int .i64 n]] W' fun e w'=>e = .returned (.agg (ptx kd r.t r.op (k.a:Int) (k.b:Int) (k.p:Int) (k.q:Int) (k.r:Int) v n))/\Below W'.heap.size W' w'):=fun W' h=>own_any h kd 0 0 (k.a:Int) (k.b:Int) (k.p:Int) (k.q:Int) (k.r:Int) v n
 obtain ⟨Om,Ot,K,pv,lv,kv,HR⟩:=H
 obtain ⟨A,c,rfl,hc1,hc2⟩:=row_form HR.pts
 have hp:=hr.p
 have HX:=Lib.hid (Blk.box W (ptx kd 0 0 (k.a:Int) (k.b:Int) (k.p:Int) (k.q:Int) (k.r:Int) v n) 89)
 have HNX:Hid (¬ some W.heap.size=(Value.slice A S.pts.length c).ownBlock):=fun e=>by have:=(HR.pts.lt _ e.symm).2;omega
 have H1:=Lib.hid (HR.next ((Below.refl _ W).alloc (Nat.le_refl _) (.cells (ptx kd 0 0 (k.a:Int) (k.b:Int) (k.p:Int) (k.q:Int) (k.r:Int) v n) 89)))
 clear HR hr
 go_enter Tryz.func44,Tryz.ntmps44
 go_wp2_with fail
 obtain ⟨W1,hW1⟩:∃ VV,W.alloc (.cells (ptx kd 0 0 (k.a:Int) (k.b:Int) (k.p:Int) (k.q:Int) (k.r:Int) v n) 89)=VV:=⟨_,rfl⟩
 rw [hW1] at HX H1 ⊢
 obtain ⟨gx,hgx⟩:∃ VV,W.heap.size=VV:=⟨_,rfl⟩
 rw [hgx] at HX HNX ⊢
 clear hW1 hgx
 refine region_e (S:=fun w'=>w'.cell? ⟨b.g,0,none⟩=some (ptr b.B)/\w'.cell? ⟨b.B,21,none⟩=some (.slice A S.pts.length c)/\Hid (Blk w' gx (ptx kd 0 0 (k.a:Int) (k.b:Int) (k.p:Int) (k.q:Int) (k.r:Int) v n) 89)) 18 (by kernel_rfl) (⟨(H1.out.next (Below.refl _ W1).drew).run.cell 0 _ rfl,(H1.out.next (Below.refl _ W1).drew).blk.cell 21 _ rfl,Lib.hid HX.out.drew⟩) (fun hH=>?_)
 refine anyE_take (i:=0) (oi:=⟨some 4,_,_,_,_,_⟩) (v:=?v1) rfl (by kernel_rfl) (by kernel_rfl) (by kernel_rfl) (by kernel_rfl) (fun _ _ _ h=>h) (Or.inl ⟨rfl,?c1⟩) hH ?r1
 case c1=>(intro w' _;go_simp;(try with_reducible rfl))
 try simp only [Act.put,zq1,zq2,zq3]
 refine anyE_take (i:=1) (oi:=⟨some 5,_,_,_,_,_⟩) (v:=?v2) rfl (by kernel_rfl) (by kernel_rfl) (by kernel_rfl) (by kernel_rfl) (fun _ _ _ h=>h) (Or.inl ⟨rfl,?c2⟩) hH ?r2
 case c2=>(intro w' _;go_simp;(try with_reducible rfl))
 try simp only [Act.put,zq1,zq2,zq3]
 refine anyE_take (i:=2) (oi:=⟨some 6,_,_,_,_,_⟩) (v:=?v3) rfl (by kernel_rfl) (by kernel_rfl) (by kernel_rfl) (by kernel_rfl) (fun _ _ _ h=>h) (Or.inl ⟨rfl,?c3⟩) hH ?r3
 case c3=>(intro w' _;go_simp;(try with_reducible rfl))
 try simp only [Act.put,zq1,zq2,zq3]
 refine anyE_take (i:=3) (oi:=⟨some 7,_,_,_,_,_⟩) (v:=?v4) rfl (by kernel_rfl) (by kernel_rfl) (by kernel_rfl) (by kernel_rfl) (fun _ _ _ h=>h) (Or.inl ⟨rfl,?c4⟩) hH ?r4
 case c4=>(intro w' hS;(try dsimp only at hS);go_simp;(try with_reducible rfl))
 try simp only [Act.put,zq1,zq2,zq3]
 refine anyE_take (i:=4) (oi:=⟨some 8,_,_,_,_,_⟩) (v:=?v5) rfl (by kernel_rfl) (by kernel_rfl) (by kernel_rfl) (by kernel_rfl) (fun _ _ _ h=>h) (Or.inl ⟨rfl,?c5⟩) hH ?r5
 case c5=>(intro w' _;go_simp;(try with_reducible rfl))
 try simp only [Act.put,zq1,zq2,zq3]
 refine anyE_take (i:=5) (oi:=⟨some 9,_,_,_,_,_⟩) (v:=?v6) rfl (by kernel_rfl) (by kernel_rfl) (by kernel_rfl) (by kernel_rfl) (fun _ _ _ h=>h) (Or.inl ⟨rfl,?c6⟩) hH ?r6
 case c6=>(intro w' _;go_simp;(try with_reducible rfl))
 try simp only [Act.put,zq1,zq2,zq3]
 refine anyE_take (i:=6) (oi:=⟨some 10,_,_,_,_,_⟩) (v:=?v7) rfl (by kernel_rfl) (by kernel_rfl) (by kernel_rfl) (by kernel_rfl) (fun _ _ _ h=>h) (Or.inl ⟨rfl,?c7⟩) hH ?r7
 case c7=>(intro w' _;go_simp;(try with_reducible rfl))
 try simp only [Act.put,zq1,zq2,zq3]
 refine anyE_take (i:=7) (oi:=⟨some 11,_,_,_,_,_⟩) (v:=?v8) rfl (by kernel_rfl) (by kernel_rfl) (by kernel_rfl) (by kernel_rfl) (fun _ _ _ h=>h) (Or.inl ⟨rfl,?c8⟩) hH ?r8
 case c8=>(intro w' hS;(try dsimp only at hS);go_simp;(try with_reducible rfl))
 try simp only [Act.put,zq1,zq2,zq3]
 refine anyE_take (i:=8) (oi:=⟨some 12,_,_,_,_,_⟩) (v:=?v9) rfl (by kernel_rfl) (by kernel_rfl) (by kernel_rfl) (by kernel_rfl) (fun _ _ _ h=>h) (Or.inl ⟨rfl,?c9⟩) hH ?r9
 case c9=>(intro w' _;go_simp;(try with_reducible rfl))
 try simp only [Act.put,zq1,zq2,zq3]
 refine anyE_take (i:=9) (oi:=⟨some 13,_,_,_,_,_⟩) (v:=?v10) rfl (by kernel_rfl) (by kernel_rfl) (by kernel_rfl) (by kernel_rfl) (fun _ _ _ h=>h) (Or.inl ⟨rfl,?c10⟩) hH ?r10
 case c10=>(intro w' _;go_simp;(try with_reducible rfl))
 try simp only [Act.put,zq1,zq2,zq3]
 refine anyE_take (i:=10) (oi:=⟨some 14,_,_,_,_,_⟩) (v:=?v11) rfl (by kernel_rfl) (by kernel_rfl) (by kernel_rfl) (by kernel_rfl) (fun _ _ _ h=>h) (Or.inl ⟨rfl,?c11⟩) hH ?r11
 case c11=>(intro w' hS;(try dsimp only at hS);go_simp;(try with_reducible rfl))
 try simp only [Act.put,zq1,zq2,zq3]
 refine anyE_take (i:=11) (oi:=⟨some 15,_,_,_,_,_⟩) (v:=?v12) rfl (by kernel_rfl) (by kernel_rfl) (by kernel_rfl) (by kernel_rfl) (fun _ _ _ h=>h) (Or.inl ⟨rfl,?c12⟩) hH ?r12
 case c12=>(intro w' _;go_simp;(try with_reducible rfl))
 try simp only [Act.put,zq1,zq2,zq3]
 refine anyE_take (i:=12) (oi:=⟨some 16,_,_,_,_,_⟩) (v:=?v13) rfl (by kernel_rfl) (by kernel_rfl) (by kernel_rfl) (by kernel_rfl) (fun _ _ _ h=>h) (Or.inl ⟨rfl,?c13⟩) hH ?r13
 case c13=>(intro w' hS;obtain ⟨x0,x1,x2,x3,x4,x5,x6,x7,x8,x9⟩:=pt_cells hS.2.2.out;go_simp;(try with_reducible rfl))
 try simp only [Act.put,zq1,zq2,zq3]
 refine anyE_ready (rs:=[13]) (by kernel_rfl) (by simp) (AllE.cons rfl (fun K hK=>?_) (AllE.nil))
 go_simp
 go_at_call 83
 refine (HOW.out _ ⟨_,_,_,_,_,_,(H1.out.next (Below.refl _ W1).drew)⟩).mono ?_
 rintro e w2 ⟨rfl,hb⟩
 have H2:=Lib.hid ((H1.out.next (Below.refl _ W1).drew).next hb)
 have HX2:=Lib.hid (HX.out.drew.next hb)
 clear hb H1 HX
 refine hK.out _ _ (⟨H2.out.run.cell 0 _ rfl,H2.out.blk.cell 21 _ rfl,HX2⟩) (fun hH=>?_)
 clear hK K
 try simp only [Act.put,zq1,zq2,zq3]
 refine anyE_ready (rs:=[14]) (by kernel_rfl) (by simp) (AllE.cons rfl (fun K hK=>?_) (AllE.nil))
 go_simp
 refine hK.out _ _ (⟨(H2.out.next ((Below.refl _ w2).alloc (Nat.le_refl _) _)).run.cell 0 _ rfl,(H2.out.next ((Below.refl _ w2).alloc (Nat.le_refl _) _)).blk.cell 21 _ rfl,Lib.hid (HX2.out.alloc _)⟩) (fun hH=>?_)
 clear hK K
 have H3:=Lib.hid (H2.out.next ((Below.refl _ w2).alloc (Nat.le_refl _) (.cells (ptx kd r.t r.op (k.a:Int) (k.b:Int) (k.p:Int) (k.q:Int) (k.r:Int) v n) 89)))
 have HX3:=Lib.hid (Blk.box w2 (ptx kd r.t r.op (k.a:Int) (k.b:Int) (k.p:Int) (k.q:Int) (k.r:Int) v n) 89)
 clear HX2 H2
 generalize w2.heap.size=gs at *
 generalize w2.alloc (.cells (ptx kd r.t r.op (k.a:Int) (k.b:Int) (k.p:Int) (k.q:Int) (k.r:Int) v n) 89)=w3 at *
 try simp only [Act.put,zq1,zq2,zq3]
 refine anyE_ready (rs:=[15]) (by kernel_rfl) (by simp) (AllE.cons rfl (fun K hK=>?_) (AllE.nil))
 refine step_push1 b.w0.heap.size (S.pts.length+1) rfl (.tmp 14) (.tmp 18) 52 89 rfl Tryz.underlying52 _ 10 56 pt_info rfl (by omega) (by omega) _ S.pts.length (pcs S.pts) rfl (pts_le H3.out) H3.out.pts (ptx kd r.t r.op (k.a:Int) (k.b:Int) (k.p:Int) (k.q:Int) (k.r:Int) v n).toList rfl (by intro u hu;simp at hu;rcases hu with rfl | rfl | rfl | rfl | rfl | rfl | rfl | rfl | rfl | rfl <;> rfl) gs (cells_of HX3.out) rfl rfl (by omega) ?_
 intro A5 c5 w4 ho hg hor
 change K (Act.put _ (some 19) _) _
 have HG:=Lib.hid (H3.out.grown hg.out)
 refine hK.out _ _ (⟨HG.out.1,HG.out.2.1,Lib.hid (hH.2.2.out.keep (hg.out.block _ hH.2.2.out.lt (fun e=>HNX.out e)))⟩) (fun hH=>?_)
 clear hK K
 try simp only [Act.put,zq1,zq2,zq3]
 refine anyF_take [17] (i:=16) (oi:=⟨some 20,_,_,_,_,_⟩) (v:=?v14) rfl (by kernel_rfl) (by kernel_rfl) (by kernel_rfl) (by kernel_rfl) (fun _ _ _ h=>h) (Or.inl ⟨rfl,?c14⟩) hH ?r14
 case c14=>(intro w' _;go_simp;(try with_reducible rfl))
 try simp only [Act.put,zq1,zq2,zq3]
 refine anyE_take (i:=17) (oi:=⟨some 21,_,_,_,_,_⟩) (v:=?v15) rfl (by kernel_rfl) (by kernel_rfl) (by kernel_rfl) (by kernel_rfl) (fun _ _ _ h=>h) (Or.inl ⟨rfl,?c15⟩) hH ?r15
 case c15=>(intro w' _;go_simp;(try with_reducible rfl))
 try simp only [Act.put,zq1,zq2,zq3]
 refine anyE_ready (rs:=[18]) (by kernel_rfl) (by simp) (AllE.end_ rfl (fun K hK=>?_))
 have c0:=HG.out.2.1
 have f0:=HG.out.2.2.1
 go_simp
 clear c0 f0
 refine hK.out _ _ ?_
 clear hK K
 try simp only [Act.put,zq1,zq2,zq3]
 refine anyE_done (by kernel_rfl) ?_ _
 have HP:Hid (w4.ownsRow b.w0.heap.size 89 10 (.slice A5 (S.pts.length+1) c5) (S.pts ++ [(⟨kd,r.t,r.op,k,v,n⟩:Pt)]).length (pcs (S.pts ++ [(⟨kd,r.t,r.op,k,v,n⟩:Pt)]))):=by
  rw [pcs_add,List.length_append];exact ho
 have HV:Hid (∀ j,(Value.slice A5 (S.pts.length+1) c5).ownBlock=some j->(Value.slice A S.pts.length c).ownBlock=some j\/w3.heap.size<=j):=fun j hj=>by
  rcases hor.out with h | ⟨g',h,h2,_⟩
  ·exact .inl (h ▸ hj)
  ·rw [h] at hj
   exact .inr (Option.some.inj hj ▸ h2)
 have HE:=Lib.hid (H3.out.points HG.out.2.2.2 HP.out HV.out)
 clear hH HG ho hg hor
 go_wp2_with fail
 go_end0
 exact ⟨rfl,_,_,_,_,_,_,HE.out⟩
end
end Pg
end Go.Proofs.YtcockldefmmhbaaGreatDoor
set_option linter.unusedVariables false
set_option linter.unusedSimpArgs false
set_option maxRecDepth 100000
namespace Go.Proofs.YtcockldefmmhbaaGreatDoor
open Go.ChangeShapes Go.WideShapes Go.ChangeAt Go.RowKit Go.Mtl Go.Lib
namespace Pg
open MemM (Ms lookV loadS swapB swapS holdV lockB lockS unlockS touchS moreS)
open RulM (R)
open AutM (Ke)
open Me (ptr)
open Tb (TAt TM Fw)
section
variable {b:Bs} {W:World} {S:Sh} {r:Rn}
theorem record0 (H:Y b S r W) (hr:Rm 0 S) (kd v n:Int):Calls Tryz.prog 44 #[ptr b.g,.agg #[.int .i64 kd,.int .i64 0,.int .i64 0,.int .u32 0,.int .u32 0,.int .u16 0,.int .u16 0,.int .u8 0,.int .i64 v,.int .i64 n]] W (Yd b U (say S r kd k0 v n) r):=record_any H hr kd k0 v n
theorem end_any (H:Y b S r W) (hr:Rm 0 S):Calls Tryz.prog 80 #[ptr b.g] W (Yd b U (endA S r).1 (endA S r).2):=by
 have HRC:=Lib.hid (record0 H.drew hr 8 r.v r.n)
 have HY:=Lib.hid H
 clear H hr
 go_enter Tryz.func80,Tryz.ntmps80
 go_wp2_with fail
 refine wp_region_held_drew (S:=fun w'=>w'.cell? ⟨b.g,8,none⟩=some (.int .i64 r.v)/\w'.cell? ⟨b.g,9,none⟩=some (.int .i64 r.n)) (by kernel_rfl) (⟨HY.out.drew.cell 8 (.int .i64 r.v) (fun _ _=>rfl),HY.out.drew.cell 9 (.int .i64 r.n) (fun _ _=>rfl)⟩) (fun hH=>?_)
 refine zqt 0 (some 2) ?v1 rfl rfl ?c1 hH ?r1
 case c1=>(intro w' _;go_simp;(try with_reducible rfl))
 try simp only [Act.put,zq1,zq2,zq3]
 refine zqt 1 (some 3) ?v2 rfl rfl ?c2 hH ?r2
 case c2=>(intro w' _;go_simp;(try with_reducible rfl))
 try simp only [Act.put,zq1,zq2,zq3]
 refine zqt 2 (some 4) ?v3 rfl rfl ?c3 hH ?r3
 case c3=>(intro w' _;go_simp;(try with_reducible rfl))
 try simp only [Act.put,zq1,zq2,zq3]
 refine zqt 3 (some 5) ?v4 rfl rfl ?c4 hH ?r4
 case c4=>(intro w' _;go_simp;(try with_reducible rfl))
 try simp only [Act.put,zq1,zq2,zq3]
 refine zqt 4 (some 6) ?v5 rfl rfl ?c5 hH ?r5
 case c5=>(intro w' _;go_simp;(try with_reducible rfl))
 try simp only [Act.put,zq1,zq2,zq3]
 refine zqt 5 (some 7) ?v6 rfl rfl ?c6 hH ?r6
 case c6=>(intro w' hS;(try dsimp only at hS);go_simp;(try with_reducible rfl))
 try simp only [Act.put,zq1,zq2,zq3]
 refine zqt 6 (some 8) ?v7 rfl rfl ?c7 hH ?r7
 case c7=>(intro w' _;go_simp;(try with_reducible rfl))
 try simp only [Act.put,zq1,zq2,zq3]
 refine zqt 7 (some 9) ?v8 rfl rfl ?c8 hH ?r8
 case c8=>(intro w' _;go_simp;(try with_reducible rfl))
 try simp only [Act.put,zq1,zq2,zq3]
 refine zqt 8 (some 10) ?v9 rfl rfl ?c9 hH ?r9
 case c9=>(intro w' _;go_simp;(try with_reducible rfl))
 try simp only [Act.put,zq1,zq2,zq3]
 refine zqt 9 (some 11) ?v10 rfl rfl ?c10 hH ?r10
 case c10=>(intro w' _;go_simp;(try with_reducible rfl))
 try simp only [Act.put,zq1,zq2,zq3]
 refine zqt 10 (some 12) ?v11 rfl rfl ?c11 hH ?r11
 case c11=>(intro w' hS;(try dsimp only at hS);go_simp;(try with_reducible rfl))
 try simp only [Act.put,zq1,zq2,zq3]
 refine zqt 11 (some 13) ?v12 rfl rfl ?c12 hH ?r12
 case c12=>(intro w' _;go_simp;(try with_reducible rfl))
 try simp only [Act.put,zq1,zq2,zq3]
 refine wpAnyH_ready (rs:=[12]) (by kernel_rfl) (by simp) (AllReadyH.cons rfl (fun K hK=>?_) (AllReadyH.nil))
 go_simp
 go_at_call 44
 refine HRC.out.mono ?_
 rintro e w2 ⟨rfl,hy⟩
 refine hK.out _ _ (⟨hy.cell 8 (.int .i64 r.v) (fun _ _=>rfl),hy.cell 9 (.int .i64 r.n) (fun _ _=>rfl)⟩) (fun hH=>?_)
 clear hK K
 have H2:=Lib.hid hy
 clear hy HY HRC
 try simp only [Act.put,zq1,zq2,zq3]
 refine wpAnyH_done (by kernel_rfl) ?_ _
 clear hH
 have H3:=Lib.hid (H2.out.set (r':=goto r .done) 3 .nilFunc (fun _ _=>rfl) rfl rfl)
 have H4:=Lib.hid (H3.out.set (r':=(endA S r).2) 6 (.bool true) (fun _ _=>rfl) rfl rfl)
 have f0:=H2.out.frozen 3
 have f1:=H2.out.frozen 6
 have c0:=H2.out.cell 3 (nextV r.at_) (fun _ _=>rfl)
 have c1:=H2.out.cell 6 (.bool r.en) (fun _ _=>rfl)
 clear H3 H2
 go_wp2_with fail
 go_end0
 exact ⟨rfl,H4.out⟩
end
end Pg
end Go.Proofs.YtcockldefmmhbaaGreatDoor
set_option linter.unusedVariables false
set_option linter.unusedSimpArgs false
set_option maxRecDepth 100000
namespace Go.Proofs.YtcockldefmmhbaaGreatDoor
open Go.ChangeShapes Go.WideShapes Go.ChangeAt Go.RowKit Go.Mtl Go.Lib
namespace Pg
open MemM (Ms lookV loadS swapB swapS holdV lockB lockS unlockS touchS moreS)
open RulM (R)
open AutM (Ke)
open Me (ptr)
open Tb (TAt TM Fw)
section
variable {b:Bs} {W:World} {S:Sh} {r:Rn}
end
end Pg
end Go.Proofs.YtcockldefmmhbaaGreatDoor
set_option linter.unusedVariables false
set_option linter.unusedSimpArgs false
set_option maxRecDepth 100000
namespace Go.Proofs.YtcockldefmmhbaaGreatDoor
open Go.ChangeShapes Go.WideShapes Go.ChangeAt Go.RowKit Go.Mtl Go.Lib
namespace Pg
open MemM (Ms lookV loadS swapB swapS holdV lockB lockS unlockS touchS moreS)
open RulM (R)
open AutM (Ke)
open Me (ptr)
open Tb (TAt TM Fw)
def real (ps:List Pt):List Pt:=ps.filter fun p=>decide (p.kd≠0)
theorem real_snoc (ps:List Pt) (p:Pt):real (ps ++ [p])=if p.kd≠0 then real ps ++ [p] else real ps:=by
 unfold real
 rw [List.filter_append]
 by_cases h:p.kd=0 <;> simp [h]
theorem take_snoc {α:Type} {l:List α} {j:Nat} {x:α} (h:l[j]? = some x):l.take (j+1)=l.take j ++ [x]:=by
 rw [List.take_add_one,h];rfl
theorem pcs_at {ps:List Pt} {j:Nat} {p:Pt} (h:ps[j]? = some p) (i:Nat) (hi:i < 10):(pcs ps)[j * 10+i]? = (ptc p)[i]?:=by
 induction ps generalizing j with
 | nil=>cases h
 | cons q ps ih =>
  cases j with
  | zero =>
   obtain rfl:=Option.some.inj h
   rw [Nat.zero_mul,Nat.zero_add]
   show (ptc q ++ pcs ps)[i]? = _
   rw [List.getElem?_append_left (by simp;omega)]
  | succ j =>
   have:=ih (show ps[j]? = some p from h)
   rw [← this]
   show (ptc q ++ pcs ps)[(j+1) * 10+i]? = _
   rw [List.getElem?_append_right (by simp;omega)]
   congr 1
   simp;omega
section
variable {b:Bs} {W:World} {Om Ot K:Nat->Prop} {pv:Value} {S:Sh}
structure PL (W:World) (ps:List Pt) (j:Nat) (A:Option Addr) (n c:Nat) (w:World):Prop where
 row:w.ownsRow W.heap.size 89 10 (.slice A n c) n (pcs (real (ps.take j)))
 len:n=(real (ps.take j)).length
 bel:Below W.heap.size W w
set_option maxHeartbeats 4000000 in
theorem points_any (H:SR b Om Ot K pv S W) (hl:S.pts.length<=900000000000):Calls Tryz.prog 19 #[ptr b.B] W fun e w'=>∃ A c,e = .returned (.slice A (real S.pts).length c)/\w'.ownsRow W.heap.size 89 10 (.slice A (real S.pts).length c) (real S.pts).length (pcs (real S.pts))/\Below W.heap.size W w':=by
 obtain ⟨Ap,cp,rfl,hc1,hc2⟩:=row_form H.pts
 have HP:=Lib.hid H.pts
 have y0:=H.blk.cell 21 _ rfl
 have HN:=Lib.hid hl
 obtain ⟨m,hm⟩:∃ m,S.pts.length=m:=⟨_,rfl⟩
 have HM:=Lib.hid hm
 rw [hm] at y0 hc1 hl
 clear H hm
 go_enter Tryz.func19,Tryz.ntmps19
 go_wp2_with fail
 go_loopw [3,13] (fun l i wr=>∃ (j:Nat) (A:Option Addr) (n c:Nat),j<=m/\i = .int .i64 (j:Int)/\l = .slice A n c/\Hid (PL W S.pts j A n c wr)) (fun _ i _=>m - (RowKit.intOf i).toNat)
 case atStart=>exact ⟨0,none,0,0,by omega,rfl,rfl,(show Hid _ from ⟨World.ownsRow_nil _ _ _ _,rfl,Below.refl _ _⟩)⟩
 case round =>
  obtain ⟨j,A,n,c,hj,rfl,rfl,HL⟩:=hrel
  clear y0
  by_cases hlt:j < m
  ·obtain ⟨p,hp⟩:∃ p,S.pts[j]? = some p:=⟨_,List.getElem?_eq_getElem (by have:=HM.out;omega)⟩
   obtain ⟨gp,rfl⟩:∃ gp,Ap=some ⟨gp,0,none⟩:=by
    rcases HP.out.2 with ⟨e,h0⟩ | ⟨g,cap,cur,e,_⟩
    ·have:=HM.out;omega
    ·injection e with e;exact ⟨g,e⟩
   have hgp:gp < W.heap.size:=(HP.out.lt gp rfl).2
   have c0:wr.cell? ⟨gp,j * 10,none⟩=some (.int .i64 p.kd):=(HL.out.bel.cell hgp).trans ((HP.out.cellAt (j * 10) (by have:=HM.out;omega)).trans (pcs_at hp 0 (by omega)))
   have c1:wr.cell? ⟨gp,j * 10+1,none⟩=some (.int .i64 p.t):=(HL.out.bel.cell hgp).trans ((HP.out.cellAt (j * 10+1) (by have:=HM.out;omega)).trans (pcs_at hp 1 (by omega)))
   have c2:wr.cell? ⟨gp,j * 10+2,none⟩=some (.int .i64 p.op):=(HL.out.bel.cell hgp).trans ((HP.out.cellAt (j * 10+2) (by have:=HM.out;omega)).trans (pcs_at hp 2 (by omega)))
   have c3:wr.cell? ⟨gp,j * 10+3,none⟩=some (.int .u32 (p.k.a:Int)):=(HL.out.bel.cell hgp).trans ((HP.out.cellAt (j * 10+3) (by have:=HM.out;omega)).trans (pcs_at hp 3 (by omega)))
   have c4:wr.cell? ⟨gp,j * 10+4,none⟩=some (.int .u32 (p.k.b:Int)):=(HL.out.bel.cell hgp).trans ((HP.out.cellAt (j * 10+4) (by have:=HM.out;omega)).trans (pcs_at hp 4 (by omega)))
   have c5:wr.cell? ⟨gp,j * 10+5,none⟩=some (.int .u16 (p.k.p:Int)):=(HL.out.bel.cell hgp).trans ((HP.out.cellAt (j * 10+5) (by have:=HM.out;omega)).trans (pcs_at hp 5 (by omega)))
   have c6:wr.cell? ⟨gp,j * 10+6,none⟩=some (.int .u16 (p.k.q:Int)):=(HL.out.bel.cell hgp).trans ((HP.out.cellAt (j * 10+6) (by have:=HM.out;omega)).trans (pcs_at hp 6 (by omega)))
   have c7:wr.cell? ⟨gp,j * 10+7,none⟩=some (.int .u8 (p.k.r:Int)):=(HL.out.bel.cell hgp).trans ((HP.out.cellAt (j * 10+7) (by have:=HM.out;omega)).trans (pcs_at hp 7 (by omega)))
   have c8:wr.cell? ⟨gp,j * 10+8,none⟩=some (.int .i64 p.v):=(HL.out.bel.cell hgp).trans ((HP.out.cellAt (j * 10+8) (by have:=HM.out;omega)).trans (pcs_at hp 8 (by omega)))
   have c9:wr.cell? ⟨gp,j * 10+9,none⟩=some (.int .i64 p.n):=(HL.out.bel.cell hgp).trans ((HP.out.cellAt (j * 10+9) (by have:=HM.out;omega)).trans (pcs_at hp 9 (by omega)))
   have HTK:Hid (real (S.pts.take (j+1))=if p.kd≠0 then real (S.pts.take j) ++ [p] else real (S.pts.take j)):=by show _=_;rw [take_snoc hp,real_snoc]
   have HWA:=Lib.hid (below_box wr (.cells #[.int .i64 p.kd,.int .i64 p.t,.int .i64 p.op,.int .u32 (p.k.a:Int),.int .u32 (p.k.b:Int),.int .u16 (p.k.p:Int),.int .u16 (p.k.q:Int),.int .u8 (p.k.r:Int),.int .i64 p.v,.int .i64 p.n] 89))
   have hnl:n<=j:=by have h1:=HL.out.len;have h2:(real (S.pts.take j)).length<=(S.pts.take j).length:=List.length_filter_le _ _;rw [List.length_take] at h2;omega
   by_cases hk:p.kd=0
   ·have d0:(p.kd == 0)=true:=by simpa using hk
    have HN2:Hid (PL W S.pts (j+1) A n c (wr.alloc (.cells #[.int .i64 p.kd,.int .i64 p.t,.int .i64 p.op,.int .u32 (p.k.a:Int),.int .u32 (p.k.b:Int),.int .u16 (p.k.p:Int),.int .u16 (p.k.q:Int),.int .u8 (p.k.r:Int),.int .i64 p.v,.int .i64 p.n] 89))):=by
     have h1:=HTK.out
     rw [if_neg (by simpa using hk)] at h1
     exact ⟨by rw [h1];exact HL.out.row.alloc _,by rw [h1];exact HL.out.len,HL.out.bel.alloc HL.out.bel.size _⟩
    clear hk hp hgp HTK HWA HL
    go_wp2_with fail
    go_roundw
    case rel=>exact ⟨j+1,A,n,c,by omega,by go_num,rfl,HN2⟩
    case measure=>simp [RowKit.intOf];omega
   ·have d0:(p.kd == 0)=false:=by simpa using hk
    have HROW:Hid ((wr.alloc (.cells #[.int .i64 p.kd,.int .i64 p.t,.int .i64 p.op,.int .u32 (p.k.a:Int),.int .u32 (p.k.b:Int),.int .u16 (p.k.p:Int),.int .u16 (p.k.q:Int),.int .u8 (p.k.r:Int),.int .i64 p.v,.int .i64 p.n] 89)).ownsRow 0 89 10 (.slice A n c) n (pcs (real (S.pts.take j)))):=row_base (HL.out.row.alloc _) fun _ _=>Nat.zero_le _
    have HFIN:Hid (∀ A' c' w1,w1.ownsRow 0 89 10 (.slice A' (n+1) c') (n+1) (pcs (real (S.pts.take j)) ++ ptc p)->(wr.alloc (.cells #[.int .i64 p.kd,.int .i64 p.t,.int .i64 p.op,.int .u32 (p.k.a:Int),.int .u32 (p.k.b:Int),.int .u16 (p.k.p:Int),.int .u16 (p.k.q:Int),.int .u8 (p.k.r:Int),.int .i64 p.v,.int .i64 p.n] 89)).grownBy w1 (Value.slice A n c).ownBlock->((Value.slice A' (n+1) c').ownBlock=(Value.slice A n c).ownBlock\/∃ g,(Value.slice A' (n+1) c').ownBlock=some g/\(wr.alloc (.cells #[.int .i64 p.kd,.int .i64 p.t,.int .i64 p.op,.int .u32 (p.k.a:Int),.int .u32 (p.k.b:Int),.int .u16 (p.k.p:Int),.int .u16 (p.k.q:Int),.int .u8 (p.k.r:Int),.int .i64 p.v,.int .i64 p.n] 89)).heap.size<=g/\g < w1.heap.size)->PL W S.pts (j+1) A' (n+1) c' w1):=by
     intro A' c' w1 h1 h2 h3
     have e:=HTK.out
     rw [if_pos (by simpa using hk)] at e
     have hs:W.heap.size<=(wr.alloc (.cells #[.int .i64 p.kd,.int .i64 p.t,.int .i64 p.op,.int .u32 (p.k.a:Int),.int .u32 (p.k.b:Int),.int .u16 (p.k.p:Int),.int .u16 (p.k.q:Int),.int .u8 (p.k.r:Int),.int .i64 p.v,.int .i64 p.n] 89)).heap.size:=Nat.le_trans HL.out.bel.size HWA.out.size
     refine ⟨?_,by rw [e,List.length_append,← HL.out.len];rfl,?_⟩
     ·rw [e,pcs_add]
      refine row_base h1 fun g hg=>?_
      rcases h3 with h3 | ⟨g',h3,h4,_⟩
      ·exact (HL.out.row.lt g (h3 ▸ hg)).1
      ·rw [h3] at hg;obtain rfl:=Option.some.inj hg;omega
     ·exact (HL.out.bel.alloc HL.out.bel.size _).grown h2 hs fun k hk=>(HL.out.row.lt k hk).1
    clear hk hp hgp HTK HWA HL
    go_wp2_with (at_builtin;refine wpList_push (n+1) rfl _ _ 52 89 rfl Tryz.underlying52 _ 10 56 pt_info rfl (by omega) (by omega) _ _ _ rfl HROW.out (ptc p) rfl (by intro u hu;simp at hu;rcases hu with rfl | rfl | rfl | rfl | rfl | rfl | rfl | rfl | rfl | rfl <;> rfl) (by rw [World.size_alloc];rfl) rfl (by omega) ?_;intro A' c' w1 h1 h2 h3;have HNX:=Lib.hid (HFIN.out A' c' w1 h1.out h2.out h3.out);clear h1 h2 h3)
    go_roundw
    case rel=>exact ⟨j+1,A',n+1,c',by omega,by go_num,rfl,HNX⟩
    case measure=>simp [RowKit.intOf];omega
  ·obtain rfl:j=m:=by omega
   have HFI:Hid (PL W S.pts S.pts.length A n c wr):=by rw [HM.out];exact HL
   have hn:n=(real S.pts).length:=by have:=HFI.out.len;rwa [List.take_length] at this
   subst hn
   have HFR:=Lib.hid HFI.out.row
   rw [List.take_length] at HFR
   have HFB:=Lib.hid HFI.out.bel
   clear HL HFI
   go_wp2_with fail
   go_ret
   exact ⟨A,c,rfl,HFR.out,HFB.out⟩
end
end Pg
end Go.Proofs.YtcockldefmmhbaaGreatDoor
set_option linter.unusedVariables false
set_option linter.unusedSimpArgs false
set_option maxRecDepth 100000
namespace Go.Proofs.YtcockldefmmhbaaGreatDoor
open Go.ChangeShapes Go.WideShapes Go.ChangeAt Go.RowKit Go.Mtl Go.Lib
namespace Pg
open MemM (Ms lookV loadS swapB swapS holdV lockB lockS unlockS touchS moreS)
open RulM (R)
open AutM (Ke)
open Me (ptr)
open Tb (TAt TM Fw)
section
variable {b:Bs} {W:World} {S:Sh} {r:Rn}
theorem readClock_act (H:Y b S r W) (hr:Rm 9 S) (hF:Fit b.C S r) (he:Env b.w0):Calls Tryz.prog 38 #[ptr b.g] W (Yd b U ((readClockA S r).1) ((readClockA S r).2)):=by
 have HR:=Lib.hid hr
 have HF:=Lib.hid hF
 have HE:=Lib.hid he
 have H0:=Lib.hid H
 clear H hr hF he
 go_enter Tryz.func38,Tryz.ntmps38
 go_wp2_with fail
 go_at_call 71
 refine (loadGate_any H0.out (HR.out.mono (by omega))).mono ?_
 rintro e w1 ⟨rfl,hy⟩
 have H1:=Lib.hid hy
 clear hy 
 go_wp2_with fail
 go_at_call 37
 refine (then_any H1.out .tick _ rfl).mono ?_
 rintro e w2 ⟨rfl,hy⟩
 have H2:=Lib.hid hy
 clear hy 
 go_wp2_with fail
 go_end0
 exact ⟨rfl,H2.out⟩
end
end Pg
end Go.Proofs.YtcockldefmmhbaaGreatDoor
set_option linter.unusedVariables false
set_option linter.unusedSimpArgs false
set_option maxRecDepth 100000
namespace Go.Proofs.YtcockldefmmhbaaGreatDoor
open Go.ChangeShapes Go.WideShapes Go.ChangeAt Go.RowKit Go.Mtl Go.Lib
namespace Pg
open MemM (Ms lookV loadS swapB swapS holdV lockB lockS unlockS touchS moreS)
open RulM (R)
open AutM (Ke)
open Me (ptr)
open Tb (TAt TM Fw)
section
variable {b:Bs} {W:World} {S:Sh} {r:Rn}
end
end Pg
end Go.Proofs.YtcockldefmmhbaaGreatDoor
set_option linter.unusedVariables false
set_option linter.unusedSimpArgs false
set_option maxRecDepth 100000
namespace Go.Proofs.YtcockldefmmhbaaGreatDoor
open Go.ChangeShapes Go.WideShapes Go.ChangeAt Go.RowKit Go.Mtl Go.Lib
namespace Pg
open MemM (Ms lookV loadS swapB swapS holdV lockB lockS unlockS touchS moreS)
open RulM (R)
open AutM (Ke)
open Me (ptr)
open Tb (TAt TM Fw)
section
variable {b:Bs} {W:World} {S:Sh} {r:Rn}
set_option maxHeartbeats 2000000 in
theorem tick_act (H:Y b S r W) (hr:Rm 9 S) (hF:Fit b.C S r) (he:Env b.w0):Calls Tryz.prog 72 #[ptr b.g] W (Yd b U ((tickA S r).1) ((tickA S r).2)):=by
 have HR:=Lib.hid hr
 have HF:=Lib.hid hF
 have HE:=Lib.hid he
 have H0:=Lib.hid H
 have HLT:Hid (cG (tickW r.wg r.z)=Ga.later (cG r.wg) r.z):=(wG (fit_tick hF.wg r.z)).2.1
 have HWN:=Lib.hid (w_tick hF.wg r.z)
 have HTK:Hid (∀ W,Env W->Calls Tryz.prog 110 #[.int .u64 r.wg,.int .i64 r.z] W fun e w'=>e = .returned (.int .u64 (tickW r.wg r.z))/\Below W.heap.size W w'):=fun W he=>tickG hF.wg r.z hF.z.1 hF.z.2 W he
 have HUN:Hid (∀ W,Env W->Calls Tryz.prog 46 #[.int .u64 (tickW r.wg r.z)] W fun e w'=>e = .returned (.agg #[.int .i64 (vG (tickW r.wg r.z)),.int .i64 (kG (tickW r.wg r.z)),.int .i64 (Ga.later (cG r.wg) r.z)])/\Below W.heap.size W w'):=fun W he=>HLT.out ▸ unpackG HWN.out W he
 cases hz:swapB S.ms 0 r.wg
 ·rw [show tickA S r=(swS S r 0 r.wg (tickW r.wg r.z),goto r .readClock) by unfold tickA;rw [hz];rfl]
  have HZ:Hid (swapB S.ms 0 r.wg=false):=hz
  clear hz HLT
  generalize tickW r.wg r.z=now at *
  generalize Ga.later (cG r.wg) r.z=nc at *
  generalize vG now=nv at *
  generalize kG now=nk at *
  clear H hr hF he
  go_enter Tryz.func72,Tryz.ntmps72
  go_wp2_with fail
  refine wp_region_held_drew (S:=fun w'=>w'.cell? ⟨b.g,35,none⟩=some (.int .u64 r.wg)/\w'.cell? ⟨b.g,10,none⟩=some (.int .i64 r.z)) (by kernel_rfl) (⟨H0.out.drew.cell 35 (.int .u64 r.wg) (fun _ _=>rfl),H0.out.drew.cell 10 (.int .i64 r.z) (fun _ _=>rfl)⟩) (fun hH=>?_)
  refine zqt 0 (some 3) ?v1 rfl rfl ?c1 hH ?r1
  case c1=>(intro w' _;go_simp;(try with_reducible rfl))
  try simp only [Act.put,zq1,zq2,zq3]
  refine zqt 1 (some 4) ?v2 rfl rfl ?c2 hH ?r2
  case c2=>(intro w' _;go_simp;(try with_reducible rfl))
  try simp only [Act.put,zq1,zq2,zq3]
  refine zqt 2 (some 5) ?v3 rfl rfl ?c3 hH ?r3
  case c3=>(intro w' _;go_simp;(try with_reducible rfl))
  try simp only [Act.put,zq1,zq2,zq3]
  refine zqt 3 (some 6) ?v4 rfl rfl ?c4 hH ?r4
  case c4=>(intro w' hS;(try dsimp only at hS);go_simp;(try with_reducible rfl))
  try simp only [Act.put,zq1,zq2,zq3]
  refine zqt 4 (some 7) ?v5 rfl rfl ?c5 hH ?r5
  case c5=>(intro w' _;go_simp;(try with_reducible rfl))
  try simp only [Act.put,zq1,zq2,zq3]
  refine zqt 5 (some 8) ?v6 rfl rfl ?c6 hH ?r6
  case c6=>(intro w' _;go_simp;(try with_reducible rfl))
  try simp only [Act.put,zq1,zq2,zq3]
  refine zqt 6 (some 9) ?v7 rfl rfl ?c7 hH ?r7
  case c7=>(intro w' _;go_simp;(try with_reducible rfl))
  try simp only [Act.put,zq1,zq2,zq3]
  refine zqt 7 (some 10) ?v8 rfl rfl ?c8 hH ?r8
  case c8=>(intro w' hS;(try dsimp only at hS);go_simp;(try with_reducible rfl))
  try simp only [Act.put,zq1,zq2,zq3]
  refine wpAnyH_ready (rs:=[8]) (by kernel_rfl) (by simp) (AllReadyH.cons rfl (fun K hK=>?_) (AllReadyH.nil))
  go_simp
  go_at_call 110
  refine (HTK.out _ (H0.out.drew.env HE.out)).mono ?_
  rintro e w1 ⟨rfl,hy⟩
  refine hK.out _ _ (⟨(H0.out.drew.next hy).cell 35 (.int .u64 r.wg) (fun _ _=>rfl),(H0.out.drew.next hy).cell 10 (.int .i64 r.z) (fun _ _=>rfl)⟩) (fun hH=>?_)
  clear hK K
  have H1:=Lib.hid (H0.out.drew.next hy)
  clear hy H0 HTK
  try simp only [Act.put,zq1,zq2,zq3]
  refine zqt 9 (some 2) ?v9 rfl rfl ?c9 hH ?r9
  case c9=>(intro w' _;go_simp;(try with_reducible rfl))
  try simp only [Act.put,zq1,zq2,zq3]
  refine wpAnyH_done (by kernel_rfl) ?_ _
  clear hH
  go_wp2_with fail
  have HSW:=Lib.hid (swapGate_any H1.out (HR.out.mono (by omega)) _ HWN.out)
  rw [HZ.out] at HSW
  go_at_call 111
  refine HSW.out.mono ?_
  rintro e w2 ⟨rfl,hy⟩
  have H2:=Lib.hid hy
  clear hy HSW H1
  go_wp2_with fail
  go_at_call 37
  refine (then_any H2.out .readClock _ rfl).mono ?_
  rintro e w4 ⟨rfl,hy⟩
  have H4:=Lib.hid hy
  clear hy
  go_wp2_with fail
  go_end0
  exact ⟨rfl,H4.out⟩
 ·rw [show tickA S r=endA (say (swS S r 0 r.wg (tickW r.wg r.z)) r 5 k0 0 r.z) { r with n:=Ga.later (cG r.wg) r.z } by unfold tickA;rw [hz];rfl]
  have HZ:Hid (swapB S.ms 0 r.wg=true):=hz
  clear hz HLT
  generalize tickW r.wg r.z=now at *
  generalize Ga.later (cG r.wg) r.z=nc at *
  generalize vG now=nv at *
  generalize kG now=nk at *
  clear H hr hF he
  go_enter Tryz.func72,Tryz.ntmps72
  go_wp2_with fail
  refine wp_region_held_drew (S:=fun w'=>w'.cell? ⟨b.g,35,none⟩=some (.int .u64 r.wg)/\w'.cell? ⟨b.g,10,none⟩=some (.int .i64 r.z)) (by kernel_rfl) (⟨H0.out.drew.cell 35 (.int .u64 r.wg) (fun _ _=>rfl),H0.out.drew.cell 10 (.int .i64 r.z) (fun _ _=>rfl)⟩) (fun hH=>?_)
  refine zqt 0 (some 3) ?v10 rfl rfl ?c10 hH ?r10
  case c10=>(intro w' _;go_simp;(try with_reducible rfl))
  try simp only [Act.put,zq1,zq2,zq3]
  refine zqt 1 (some 4) ?v11 rfl rfl ?c11 hH ?r11
  case c11=>(intro w' _;go_simp;(try with_reducible rfl))
  try simp only [Act.put,zq1,zq2,zq3]
  refine zqt 2 (some 5) ?v12 rfl rfl ?c12 hH ?r12
  case c12=>(intro w' _;go_simp;(try with_reducible rfl))
  try simp only [Act.put,zq1,zq2,zq3]
  refine zqt 3 (some 6) ?v13 rfl rfl ?c13 hH ?r13
  case c13=>(intro w' hS;(try dsimp only at hS);go_simp;(try with_reducible rfl))
  try simp only [Act.put,zq1,zq2,zq3]
  refine zqt 4 (some 7) ?v14 rfl rfl ?c14 hH ?r14
  case c14=>(intro w' _;go_simp;(try with_reducible rfl))
  try simp only [Act.put,zq1,zq2,zq3]
  refine zqt 5 (some 8) ?v15 rfl rfl ?c15 hH ?r15
  case c15=>(intro w' _;go_simp;(try with_reducible rfl))
  try simp only [Act.put,zq1,zq2,zq3]
  refine zqt 6 (some 9) ?v16 rfl rfl ?c16 hH ?r16
  case c16=>(intro w' _;go_simp;(try with_reducible rfl))
  try simp only [Act.put,zq1,zq2,zq3]
  refine zqt 7 (some 10) ?v17 rfl rfl ?c17 hH ?r17
  case c17=>(intro w' hS;(try dsimp only at hS);go_simp;(try with_reducible rfl))
  try simp only [Act.put,zq1,zq2,zq3]
  refine wpAnyH_ready (rs:=[8]) (by kernel_rfl) (by simp) (AllReadyH.cons rfl (fun K hK=>?_) (AllReadyH.nil))
  go_simp
  go_at_call 110
  refine (HTK.out _ (H0.out.drew.env HE.out)).mono ?_
  rintro e w1 ⟨rfl,hy⟩
  refine hK.out _ _ (⟨(H0.out.drew.next hy).cell 35 (.int .u64 r.wg) (fun _ _=>rfl),(H0.out.drew.next hy).cell 10 (.int .i64 r.z) (fun _ _=>rfl)⟩) (fun hH=>?_)
  clear hK K
  have H1:=Lib.hid (H0.out.drew.next hy)
  clear hy H0 HTK
  try simp only [Act.put,zq1,zq2,zq3]
  refine zqt 9 (some 2) ?v18 rfl rfl ?c18 hH ?r18
  case c18=>(intro w' _;go_simp;(try with_reducible rfl))
  try simp only [Act.put,zq1,zq2,zq3]
  refine wpAnyH_done (by kernel_rfl) ?_ _
  clear hH
  go_wp2_with fail
  have HSW:=Lib.hid (swapGate_any H1.out (HR.out.mono (by omega)) _ HWN.out)
  rw [HZ.out] at HSW
  go_at_call 111
  refine HSW.out.mono ?_
  rintro e w2 ⟨rfl,hy⟩
  have H2:=Lib.hid hy
  clear hy HSW H1
  have q0:w2.cell? ⟨b.g,10,none⟩=some (.int .i64 r.z):=H2.out.cell 10 _ (fun _ _=>rfl)
  go_wp2_with fail
  go_at_call 44
  refine (record0 H2.out ((HR.out.sw 0 r.wg now).mono (by omega)) 5 0 r.z).mono ?_
  rintro e w3 ⟨rfl,hy⟩
  have H3:=Lib.hid hy
  clear hy q0 H2
  go_wp2_with fail
  go_at_call 46
  refine (HUN.out _ (H3.out.env HE.out)).mono ?_
  rintro e w4 ⟨rfl,hy⟩
  have H4:=Lib.hid (H3.out.next hy)
  have HS:=Lib.hid (H4.out.set (r':={ r with n:=nc }) 9 (.int .i64 nc) (fun _ _=>rfl) rfl rfl)
  have q0:=H4.out.frozen 9
  have q1:w4.cell? ⟨b.g,9,none⟩=some (.int .i64 r.n):=H4.out.cell 9 _ (fun _ _=>rfl)
  have q2:=gate_c nv nk nc
  clear hy H3 H4
  go_wp2_with fail
  go_at_call 80
  refine (end_any HS.out (((HR.out.sw 0 r.wg now).say ..).mono (by omega))).mono ?_
  rintro e w5 ⟨rfl,hy⟩
  have H5:=Lib.hid hy
  clear hy q0 q1 q2 HS
  go_wp2_with fail
  go_end0
  exact ⟨rfl,H5.out⟩
theorem rulesMutex_any (H:Y b S r W):Calls Tryz.prog 74 #[ptr b.B] W (Yd b (.int .i64 (b.C.n:Int)) S r):=by
 have H0:=Lib.hid H
 have x0:=H.shared 0 (.int .i64 (b.C.n:Int)) (fun _=>rfl)
 clear H
 go_enter Tryz.func74,Tryz.ntmps74
 go_wp2_with fail
 go_ret
 exact ⟨rfl,H0.out⟩
end
end Pg
end Go.Proofs.YtcockldefmmhbaaGreatDoor
