/- Several texts of this proof in one file, each in its own namespace. -/
import Derived.Test.YtcockldefmmhbaaGreatDoorJ63
/- Layer 21: the acts, one part. (Written by wip/tools/mkPrgH.py.) -/
set_option linter.unusedVariables false
set_option linter.unusedSimpArgs false
set_option maxRecDepth 100000
namespace Go.Proofs.YtcockldefmmhbaaGreatDoor
open Go.ChangeShapes Go.WideShapes Go.ChangeAt Go.RowKit Go.Mtl Go.Lib
namespace Pg
open MemM (Ms lookV loadS swapB swapS holdV lockB lockS unlockS touchS moreS)
open RulM (R)
open AutM (Ke)
open Me (ptr)
open Tb (TAt TM Fw)
section
variable {b : Bs} {W : World} {S : Sh} {r : Rn}
theorem find_act (H : Y b S r W) (hr : Rm 9 S) (hF : Fit b.C S r) (he : Env b.w0) : Calls Tryz.prog 70 #[ptr b.g] W (Yd b U (findA b.C S r |>.1) (findA b.C S r |>.2)) := by
  have HR := Lib.hid hr
  have HF := Lib.hid hF
  have HE := Lib.hid he
  have H0 := Lib.hid H
  have HFF := Lib.hid (findFlow_any H (hr.mono (by omega)) hF.k)
  cases hz : (fndO b.C S r).isSome
  · rw [hz] at HFF
    rw [show (findA b.C S r).1 = toS b.C S r 5 from rfl, show (findA b.C S r).2 = goto (fndR b.C S r) .absent by unfold findA; rw [hz]; rfl]
    clear hz
    clear H hr hF he
    go_enter Tryz.func70, Tryz.ntmps70
    go_wp2_with fail
    go_at_call 107
    refine (HFF.out).mono ?_
    rintro e w1 ⟨rfl, hy⟩
    have H1 := Lib.hid hy
    clear hy 
    go_wp2_with fail
    go_at_call 37
    refine (then_any H1.out .absent _ rfl).mono ?_
    rintro e w2 ⟨rfl, hy⟩
    have H2 := Lib.hid hy
    clear hy 
    go_wp2_with fail
    go_end0
    exact ⟨rfl, H2.out⟩
  · rw [hz] at HFF
    rw [show (findA b.C S r).1 = toS b.C S r 5 from rfl, show (findA b.C S r).2 = goto (fndR b.C S r) .release by unfold findA; rw [hz]; rfl]
    clear hz
    clear H hr hF he
    go_enter Tryz.func70, Tryz.ntmps70
    go_wp2_with fail
    go_at_call 107
    refine (HFF.out).mono ?_
    rintro e w1 ⟨rfl, hy⟩
    have H1 := Lib.hid hy
    clear hy 
    go_wp2_with fail
    go_at_call 37
    refine (then_any H1.out .release _ rfl).mono ?_
    rintro e w2 ⟨rfl, hy⟩
    have H2 := Lib.hid hy
    clear hy 
    go_wp2_with fail
    go_end0
    exact ⟨rfl, H2.out⟩
theorem look_act (H : Y b S r W) (hr : Rm 9 S) (hF : Fit b.C S r) (he : Env b.w0) : Calls Tryz.prog 256 #[ptr b.g] W (Yd b U (lookA b.C S r |>.1) (lookA b.C S r |>.2)) := by
  have HR := Lib.hid hr
  have HF := Lib.hid hF
  have HE := Lib.hid he
  have H0 := Lib.hid H
  have HFF := Lib.hid (findFlow_any H (hr.mono (by omega)) hF.k)
  cases hz : (fndO b.C S r).isSome
  · rw [hz] at HFF
    rw [show (lookA b.C S r).1 = toS b.C S r 5 from rfl, show (lookA b.C S r).2 = goto (fndR b.C S r) .absent by unfold lookA; rw [hz]; rfl]
    clear hz
    clear H hr hF he
    go_enter Tryz.func256, Tryz.ntmps256
    go_wp2_with fail
    go_at_call 107
    refine (HFF.out).mono ?_
    rintro e w1 ⟨rfl, hy⟩
    have H1 := Lib.hid hy
    clear hy 
    go_wp2_with fail
    go_at_call 37
    refine (then_any H1.out .absent _ rfl).mono ?_
    rintro e w2 ⟨rfl, hy⟩
    have H2 := Lib.hid hy
    clear hy 
    go_wp2_with fail
    go_end0
    exact ⟨rfl, H2.out⟩
  · rw [hz] at HFF
    rw [show (lookA b.C S r).1 = toS b.C S r 5 from rfl, show (lookA b.C S r).2 = goto (fndR b.C S r) .again by unfold lookA; rw [hz]; rfl]
    clear hz
    clear H hr hF he
    go_enter Tryz.func256, Tryz.ntmps256
    go_wp2_with fail
    go_at_call 107
    refine (HFF.out).mono ?_
    rintro e w1 ⟨rfl, hy⟩
    have H1 := Lib.hid hy
    clear hy 
    go_wp2_with fail
    go_at_call 37
    refine (then_any H1.out .again _ rfl).mono ?_
    rintro e w2 ⟨rfl, hy⟩
    have H2 := Lib.hid hy
    clear hy 
    go_wp2_with fail
    go_end0
    exact ⟨rfl, H2.out⟩
theorem release_act (H : Y b S r W) (hr : Rm 9 S) (hF : Fit b.C S r) (he : Env b.w0) : Calls Tryz.prog 108 #[ptr b.g] W (Yd b U ((releaseA S r).1) ((releaseA S r).2)) := by
  have HR := Lib.hid hr
  have HF := Lib.hid hF
  have HE := Lib.hid he
  have H0 := Lib.hid H
  have y0_0 := H0.out.cell 23 (.int .i64 (r.st : Int)) (fun _ _ => rfl)
  clear H hr hF he
  go_enter Tryz.func108, Tryz.ntmps108
  go_wp2_with fail
  go_at_call 151
  refine (free_any H0.out (HR.out.mono (by omega)) (r.st : Int)).mono ?_
  rintro e w1 ⟨rfl, hy⟩
  have H1 := Lib.hid hy
  clear hy y0_0
  go_wp2_with fail
  go_at_call 37
  refine (then_any H1.out .load _ rfl).mono ?_
  rintro e w2 ⟨rfl, hy⟩
  have H2 := Lib.hid hy
  clear hy 
  go_wp2_with fail
  go_end0
  exact ⟨rfl, H2.out⟩
theorem unlock_act (H : Y b S r W) (hr : Rm 9 S) (hF : Fit b.C S r) (he : Env b.w0) : Calls Tryz.prog 202 #[ptr b.g] W (Yd b U ((unlockA S r).1) ((unlockA S r).2)) := by
  have HR := Lib.hid hr
  have HF := Lib.hid hF
  have HE := Lib.hid he
  have H0 := Lib.hid H
  have y0_0 := H0.out.cell 23 (.int .i64 (r.st : Int)) (fun _ _ => rfl)
  clear H hr hF he
  go_enter Tryz.func202, Tryz.ntmps202
  go_wp2_with fail
  go_at_call 151
  refine (free_any H0.out (HR.out.mono (by omega)) (r.st : Int)).mono ?_
  rintro e w1 ⟨rfl, hy⟩
  have H1 := Lib.hid hy
  clear hy y0_0
  go_wp2_with fail
  go_at_call 37
  refine (then_any H1.out .count _ rfl).mono ?_
  rintro e w2 ⟨rfl, hy⟩
  have H2 := Lib.hid hy
  clear hy 
  go_wp2_with fail
  go_end0
  exact ⟨rfl, H2.out⟩
theorem again_act (H : Y b S r W) (hr : Rm 9 S) (hF : Fit b.C S r) (he : Env b.w0) : Calls Tryz.prog 67 #[ptr b.g] W (Yd b U ((againA S r).1) ((againA S r).2)) := by
  have HR := Lib.hid hr
  have HF := Lib.hid hF
  have HE := Lib.hid he
  have H0 := Lib.hid H
  clear H hr hF he
  go_enter Tryz.func67, Tryz.ntmps67
  go_wp2_with fail
  go_at_call 104
  refine (loadFlow_any H0.out (HR.out.mono (by omega))).mono ?_
  rintro e w1 ⟨rfl, hy⟩
  have H1 := Lib.hid hy
  clear hy 
  go_wp2_with fail
  go_at_call 37
  refine (then_any H1.out .over _ rfl).mono ?_
  rintro e w2 ⟨rfl, hy⟩
  have H2 := Lib.hid hy
  clear hy 
  go_wp2_with fail
  go_end0
  exact ⟨rfl, H2.out⟩
theorem less_act (H : Y b S r W) (hr : Rm 9 S) (hF : Fit b.C S r) (he : Env b.w0) : Calls Tryz.prog 171 #[ptr b.g] W (Yd b U ((lessA S r).1) ((lessA S r).2)) := by
  have HR := Lib.hid hr
  have HF := Lib.hid hF
  have HE := Lib.hid he
  have H0 := Lib.hid H
  clear H hr hF he
  go_enter Tryz.func171, Tryz.ntmps171
  go_wp2_with fail
  go_at_call 71
  refine (loadGate_any H0.out (HR.out.mono (by omega))).mono ?_
  rintro e w1 ⟨rfl, hy⟩
  have H1 := Lib.hid hy
  clear hy 
  go_wp2_with fail
  go_at_call 37
  refine (then_any H1.out .leave _ rfl).mono ?_
  rintro e w2 ⟨rfl, hy⟩
  have H2 := Lib.hid hy
  clear hy 
  go_wp2_with fail
  go_end0
  exact ⟨rfl, H2.out⟩
theorem readClock_act (H : Y b S r W) (hr : Rm 9 S) (hF : Fit b.C S r) (he : Env b.w0) : Calls Tryz.prog 38 #[ptr b.g] W (Yd b U ((readClockA S r).1) ((readClockA S r).2)) := by
  have HR := Lib.hid hr
  have HF := Lib.hid hF
  have HE := Lib.hid he
  have H0 := Lib.hid H
  clear H hr hF he
  go_enter Tryz.func38, Tryz.ntmps38
  go_wp2_with fail
  go_at_call 71
  refine (loadGate_any H0.out (HR.out.mono (by omega))).mono ?_
  rintro e w1 ⟨rfl, hy⟩
  have H1 := Lib.hid hy
  clear hy 
  go_wp2_with fail
  go_at_call 37
  refine (then_any H1.out .tick _ rfl).mono ?_
  rintro e w2 ⟨rfl, hy⟩
  have H2 := Lib.hid hy
  clear hy 
  go_wp2_with fail
  go_end0
  exact ⟨rfl, H2.out⟩
theorem claim_act (H : Y b S r W) (hr : Rm 9 S) (hF : Fit b.C S r) (he : Env b.w0) : Calls Tryz.prog 75 #[ptr b.g] W (Yd b U ((claimA S r).1) ((claimA S r).2)) := by
  have HR := Lib.hid hr
  have HF := Lib.hid hF
  have HE := Lib.hid he
  have H0 := Lib.hid H
  clear H hr hF he
  go_enter Tryz.func75, Tryz.ntmps75
  go_wp2_with fail
  go_at_call 37
  refine (then_any H0.out .prepare _ rfl).mono ?_
  rintro e w1 ⟨rfl, hy⟩
  have H1 := Lib.hid hy
  clear hy 
  go_wp2_with fail
  go_end0
  exact ⟨rfl, H1.out⟩
theorem reopen_act (H : Y b S r W) : Calls Tryz.prog 68 #[ptr b.g] W (Yd b U S (goto r .absent)) := by
  have H0 := Lib.hid H
  clear H
  go_enter Tryz.func68, Tryz.ntmps68
  go_wp2_with fail
  go_at_call 37
  refine (then_any H0.out .absent _ rfl).mono ?_
  rintro e w1 ⟨rfl, hy⟩
  have H1 := Lib.hid hy
  clear hy 
  go_wp2_with fail
  go_end0
  exact ⟨rfl, H1.out⟩
theorem over_act (H : Y b S r W) (hr : Rm 9 S) (hF : Fit b.C S r) (he : Env b.w0) : Calls Tryz.prog 105 #[ptr b.g] W (Yd b U ((overA S r).1) ((overA S r).2)) := by
  have HR := Lib.hid hr
  have HF := Lib.hid hF
  have HE := Lib.hid he
  have H0 := Lib.hid H
  have HW := Lib.hid (H.word 0)
  cases hz : isOver (ldG S r)
  · rw [show (overA S r).1 = ldS S r 0 from rfl, show (overA S r).2 = goto (ldG S r) .release by unfold overA; rw [hz]; rfl]
    have HZ : Hid (isOver (ldG S r) = false) := hz
    clear hz
    clear H hr hF he
    go_enter Tryz.func105, Tryz.ntmps105
    go_wp2_with fail
    go_at_call 71
    refine (loadGate_any H0.out (HR.out.mono (by omega))).mono ?_
    rintro e w1 ⟨rfl, hy⟩
    have H1 := Lib.hid hy
    clear hy 
    go_wp2_with fail
    have HO := Lib.hid (isOver_any H1.out HW.out HF.out.wf HE.out)
    rw [HZ.out] at HO
    go_at_call 145
    refine (HO.out).mono ?_
    rintro e w2 ⟨rfl, hy⟩
    have H2 := Lib.hid hy
    clear hy 
    go_wp2_with fail
    go_at_call 37
    refine (then_any H2.out .release _ rfl).mono ?_
    rintro e w3 ⟨rfl, hy⟩
    have H3 := Lib.hid hy
    clear hy 
    go_wp2_with fail
    go_end0
    exact ⟨rfl, H3.out⟩
  · rw [show (overA S r).1 = ldS S r 0 from rfl, show (overA S r).2 = goto (ldG S r) .kill by unfold overA; rw [hz]; rfl]
    have HZ : Hid (isOver (ldG S r) = true) := hz
    clear hz
    clear H hr hF he
    go_enter Tryz.func105, Tryz.ntmps105
    go_wp2_with fail
    go_at_call 71
    refine (loadGate_any H0.out (HR.out.mono (by omega))).mono ?_
    rintro e w1 ⟨rfl, hy⟩
    have H1 := Lib.hid hy
    clear hy 
    go_wp2_with fail
    have HO := Lib.hid (isOver_any H1.out HW.out HF.out.wf HE.out)
    rw [HZ.out] at HO
    go_at_call 145
    refine (HO.out).mono ?_
    rintro e w2 ⟨rfl, hy⟩
    have H2 := Lib.hid hy
    clear hy 
    go_wp2_with fail
    go_at_call 37
    refine (then_any H2.out .kill _ rfl).mono ?_
    rintro e w3 ⟨rfl, hy⟩
    have H3 := Lib.hid hy
    clear hy 
    go_wp2_with fail
    go_end0
    exact ⟨rfl, H3.out⟩
theorem load_act (H : Y b S r W) (hr : Rm 9 S) (hF : Fit b.C S r) (he : Env b.w0) : Calls Tryz.prog 152 #[ptr b.g] W (Yd b U ((loadA S r).1) ((loadA S r).2)) := by
  have HR := Lib.hid hr
  have HF := Lib.hid hF
  have HE := Lib.hid he
  have H0 := Lib.hid H
  have HW := Lib.hid (H.word r.x)
  by_cases hz : sF (lookV S.ms r.x) = 15
  · rw [show (loadA S r).1 = ldS S r r.x from rfl, show (loadA S r).2 = lockTo (ldF S r) r.st .find by unfold loadA; rw [if_pos hz]]
    have HZ : Hid (((sF (lookV S.ms r.x)) == 15) = true) := by show _ = _; simpa using hz
    clear hz
    clear H hr hF he
    go_enter Tryz.func152, Tryz.ntmps152
    go_wp2_with fail
    go_at_call 104
    refine (loadFlow_any H0.out (HR.out.mono (by omega))).mono ?_
    rintro e w1 ⟨rfl, hy⟩
    have H1 := Lib.hid hy
    clear hy 
    have q1 : w1.cell? ⟨b.g, 34, none⟩ = some (.int .u64 (lookV S.ms r.x)) := H1.out.cell 34 _ (fun _ _ => rfl)
    go_wp2_with fail
    go_at_call 205
    refine (unpackF HW.out _ (H1.out.env HE.out)).mono ?_
    rintro e w2 ⟨rfl, hy⟩
    have H2 := Lib.hid (H1.out.next hy)
    clear hy q1
    have q2 := flow_s (sF (lookV S.ms r.x)) (nF (lookV S.ms r.x)) (cF (lookV S.ms r.x))
    have q3 := HZ.out
    have q4 : w2.cell? ⟨b.g, 23, none⟩ = some (.int .i64 (r.st : Int)) := H2.out.cell 23 _ (fun _ _ => rfl)
    go_wp2_with fail
    go_at_call 69
    refine (lockThen_any H2.out (r.st : Int) .find _ rfl).mono ?_
    rintro e w3 ⟨rfl, hy⟩
    have H3 := Lib.hid hy
    clear hy q2 q3 q4
    go_wp2_with fail
    go_end0
    exact ⟨rfl, H3.out⟩
  · rw [show (loadA S r).1 = ldS S r r.x from rfl, show (loadA S r).2 = goto (ldF S r) .judge by unfold loadA; rw [if_neg hz]]
    have HZ : Hid (((sF (lookV S.ms r.x)) == 15) = false) := by show _ = _; simpa using hz
    clear hz
    clear H hr hF he
    go_enter Tryz.func152, Tryz.ntmps152
    go_wp2_with fail
    go_at_call 104
    refine (loadFlow_any H0.out (HR.out.mono (by omega))).mono ?_
    rintro e w1 ⟨rfl, hy⟩
    have H1 := Lib.hid hy
    clear hy 
    have q1 : w1.cell? ⟨b.g, 34, none⟩ = some (.int .u64 (lookV S.ms r.x)) := H1.out.cell 34 _ (fun _ _ => rfl)
    go_wp2_with fail
    go_at_call 205
    refine (unpackF HW.out _ (H1.out.env HE.out)).mono ?_
    rintro e w2 ⟨rfl, hy⟩
    have H2 := Lib.hid (H1.out.next hy)
    clear hy q1
    have q2 := flow_s (sF (lookV S.ms r.x)) (nF (lookV S.ms r.x)) (cF (lookV S.ms r.x))
    have q3 := HZ.out
    have q4 : w2.cell? ⟨b.g, 23, none⟩ = some (.int .i64 (r.st : Int)) := H2.out.cell 23 _ (fun _ _ => rfl)
    go_wp2_with fail
    go_at_call 37
    refine (then_any H2.out .judge _ rfl).mono ?_
    rintro e w3 ⟨rfl, hy⟩
    have H3 := Lib.hid hy
    clear hy q2 q3 q4
    go_wp2_with fail
    go_end0
    exact ⟨rfl, H3.out⟩
end
end Pg
end Go.Proofs.YtcockldefmmhbaaGreatDoor
/- Layer 21: the acts, another part. (Written by wip/tools/mkPrgI.py.) -/
set_option linter.unusedVariables false
set_option linter.unusedSimpArgs false
set_option maxRecDepth 100000
namespace Go.Proofs.YtcockldefmmhbaaGreatDoor
open Go.ChangeShapes Go.WideShapes Go.ChangeAt Go.RowKit Go.Mtl Go.Lib
namespace Pg
open MemM (Ms lookV loadS swapB swapS holdV lockB lockS unlockS touchS moreS)
open RulM (R)
open AutM (Ke)
open Me (ptr)
open Tb (TAt TM Fw)
section
variable {b : Bs} {W : World} {S : Sh} {r : Rn}
theorem decide_act6 (H : Y b S r W) (hr : Rm 6 S) (hF : Fit b.C S r) (he : Env b.w0) (v : Int) : Calls Tryz.prog 149 #[ptr b.g, .int .i64 v] W (Yd b U ((decideA S r v).1) ((decideA S r v).2)) := by
  have HR := Lib.hid hr
  have HF := Lib.hid hF
  have HE := Lib.hid he
  have H0 := Lib.hid H
  have HS := Lib.hid (H0.out.set (r' := { r with v := v }) 8 (.int .i64 v) (fun _ _ => rfl) rfl rfl)
  have q0 := H0.out.frozen 8
  have q1 := H0.out.cell 8 (.int .i64 r.v) (fun _ _ => rfl)
  have q2 := HS.out.cell 25 (.int .u32 (r.k.a : Int)) (fun _ _ => rfl)
  have q3 := HS.out.cell 26 (.int .u32 (r.k.b : Int)) (fun _ _ => rfl)
  have q4 := HS.out.cell 27 (.int .u16 (r.k.p : Int)) (fun _ _ => rfl)
  have q5 := HS.out.cell 28 (.int .u16 (r.k.q : Int)) (fun _ _ => rfl)
  have q6 := HS.out.cell 29 (.int .u8 (r.k.r : Int)) (fun _ _ => rfl)
  clear H hr hF he
  go_enter Tryz.func149, Tryz.ntmps149
  go_wp2_with fail
  go_at_call 44
  refine (record_any HS.out (HR.out.mono (by omega)) 2 r.k v 0).mono ?_
  rintro e w1 ⟨rfl, hy⟩
  have H1 := Lib.hid hy
  clear hy q0 q1 q2 q3 q4 q5 q6
  go_wp2_with fail
  go_at_call 37
  refine (then_any H1.out .unlock _ rfl).mono ?_
  rintro e w2 ⟨rfl, hy⟩
  have H2 := Lib.hid hy
  clear hy 
  go_wp2_with fail
  go_end0
  exact ⟨rfl, H2.out⟩
theorem change_act (H : Y b S r W) (hr : Rm 9 S) (hF : Fit b.C S r) (he : Env b.w0) (hm : r.mr < S.pts.length) (s u v : Int) : Calls Tryz.prog 285 #[ptr b.g, .int .i64 s, .int .i64 u, .int .i64 v] W (Yd b U ((changeA S r s u v).1) ((changeA S r s u v).2)) := by
  have HR := Lib.hid hr
  have HF := Lib.hid hF
  have HE := Lib.hid he
  have H0 := Lib.hid H
  have HN := Lib.hid (w_next hF.wf s u)
  have HM := Lib.hid hm
  cases hz : swapB S.ms r.x r.wf
  · rw [show changeA S r s u v = (swS S r r.x r.wf (nextW r.wf s u), goto r .load) by unfold changeA; rw [hz]; rfl]
    have HZ : Hid (swapB S.ms r.x r.wf = false) := hz
    clear hz hm
    have y0_0 := H0.out.cell 34 (.int .u64 r.wf) (fun _ _ => rfl)
    clear H hr hF he
    go_enter Tryz.func285, Tryz.ntmps285
    go_wp2_with fail
    go_at_call 199
    refine (nextF HF.out.wf s u _ (H0.out.env HE.out)).mono ?_
    rintro e w1 ⟨rfl, hy⟩
    have H1 := Lib.hid (H0.out.next hy)
    clear hy y0_0
    go_wp2_with fail
    have HSW := Lib.hid (swapFlow_any H1.out (HR.out.mono (by omega)) _ HN.out)
    rw [HZ.out] at HSW
    go_at_call 168
    refine (HSW.out).mono ?_
    rintro e w2 ⟨rfl, hy⟩
    have H2 := Lib.hid hy
    clear hy 
    go_wp2_with fail
    go_at_call 37
    refine (then_any H2.out .load _ rfl).mono ?_
    rintro e w3 ⟨rfl, hy⟩
    have H3 := Lib.hid hy
    clear hy 
    go_wp2_with fail
    go_end0
    exact ⟨rfl, H3.out⟩
  · rw [show changeA S r s u v = (fillS (swS S r r.x r.wf (nextW r.wf s u)) r v, { r with v := v, at_ := .count }) by unfold changeA; rw [hz]; rfl]
    have HZ : Hid (swapB S.ms r.x r.wf = true) := hz
    clear hz hm
    have y0_0 := H0.out.cell 34 (.int .u64 r.wf) (fun _ _ => rfl)
    clear H hr hF he
    go_enter Tryz.func285, Tryz.ntmps285
    go_wp2_with fail
    go_at_call 199
    refine (nextF HF.out.wf s u _ (H0.out.env HE.out)).mono ?_
    rintro e w1 ⟨rfl, hy⟩
    have H1 := Lib.hid (H0.out.next hy)
    clear hy y0_0
    go_wp2_with fail
    have HSW := Lib.hid (swapFlow_any H1.out (HR.out.mono (by omega)) _ HN.out)
    rw [HZ.out] at HSW
    go_at_call 168
    refine (HSW.out).mono ?_
    rintro e w2 ⟨rfl, hy⟩
    have H2 := Lib.hid hy
    clear hy 
    have HS := Lib.hid (H2.out.set (r' := { r with v := v }) 8 (.int .i64 v) (fun _ _ => rfl) rfl rfl)
    have q0 := H2.out.frozen 8
    have q1 := H2.out.cell 8 (.int .i64 r.v) (fun _ _ => rfl)
    have q2 := HS.out.cell 25 (.int .u32 (r.k.a : Int)) (fun _ _ => rfl)
    have q3 := HS.out.cell 26 (.int .u32 (r.k.b : Int)) (fun _ _ => rfl)
    have q4 := HS.out.cell 27 (.int .u16 (r.k.p : Int)) (fun _ _ => rfl)
    have q5 := HS.out.cell 28 (.int .u16 (r.k.q : Int)) (fun _ _ => rfl)
    have q6 := HS.out.cell 29 (.int .u8 (r.k.r : Int)) (fun _ _ => rfl)
    go_wp2_with fail
    go_at_call 299
    refine (fillMark_any HS.out ((HR.out.sw r.x r.wf (nextW r.wf s u)).mono (by omega)) HM.out 2 r.k v 0).mono ?_
    rintro e w3 ⟨rfl, hy⟩
    have H3 := Lib.hid hy
    clear hy q0 q1 q2 q3 q4 q5 q6
    go_wp2_with fail
    go_at_call 37
    refine (then_any H3.out .count _ rfl).mono ?_
    rintro e w4 ⟨rfl, hy⟩
    have H4 := Lib.hid hy
    clear hy 
    go_wp2_with fail
    go_end0
    exact ⟨rfl, H4.out⟩
theorem sure_act (H : Y b S r W) (hr : Rm 9 S) (hF : Fit b.C S r) (he : Env b.w0) (hm : r.mr < S.pts.length) : Calls Tryz.prog 258 #[ptr b.g] W (Yd b U ((sureA S r).1) ((sureA S r).2)) := by
  have HR := Lib.hid hr
  have HF := Lib.hid hF
  have HE := Lib.hid he
  have H0 := Lib.hid H
  have HM := Lib.hid hm
  clear hm
  have y0_0 := H0.out.cell 34 (.int .u64 r.wf) (fun _ _ => rfl)
  clear H hr hF he
  go_enter Tryz.func258, Tryz.ntmps258
  go_wp2_with fail
  go_at_call 205
  refine (unpackF HF.out.wf _ (H0.out.env HE.out)).mono ?_
  rintro e w1 ⟨rfl, hy⟩
  have H1 := Lib.hid (H0.out.next hy)
  clear hy y0_0
  go_wp2_with fail
  have H2 := Lib.hid (H1.out.alloc (.cells #[.int .i64 (sF r.wf), .int .i64 (nF r.wf), .int .i64 (cF r.wf)] 263))
  go_at_call 285
  refine (change_act H2.out HR.out HF.out HE.out HM.out (sF r.wf) (cF r.wf) 4).mono ?_
  rintro e w3 ⟨rfl, hy⟩
  have H3 := Lib.hid hy
  clear hy 
  go_wp2_with fail
  go_end0
  exact ⟨rfl, H3.out⟩
theorem advance_act (H : Y b S r W) (hr : Rm 9 S) (hF : Fit b.C S r) (he : Env b.w0) (hm : r.mr < S.pts.length) : Calls Tryz.prog 259 #[ptr b.g] W (Yd b U ((advanceA b.C S r).1) ((advanceA b.C S r).2)) := by
  have HR := Lib.hid hr
  have HF := Lib.hid hF
  have HE := Lib.hid he
  have H0 := Lib.hid H
  have HM := Lib.hid hm
  clear hm
  clear H hr hF he
  go_enter Tryz.func259, Tryz.ntmps259
  go_wp2_with fail
  refine region_e (S := fun w' => w'.cell? ⟨b.g, 32, none⟩ = some (.int .i64 r.tn)) 7 (by kernel_rfl) (H0.out.drew.cell 32 (.int .i64 r.tn) (fun _ _ => rfl)) (fun hH => ?_)
  refine anyE_take (i := 0) (oi := ⟨some 2, _, _, _, _, _⟩) (v := ?v1) rfl (by kernel_rfl) (by kernel_rfl) (by kernel_rfl) (by kernel_rfl) (fun _ _ _ h => h) (Or.inl ⟨rfl, ?c1⟩) hH ?r1
  case c1 => (intro w' _; go_simp; (try with_reducible rfl))
  try simp only [Act.put, List.setIfInBounds_toArray, List.set_cons_zero, List.set_cons_succ]
  refine anyF_take [2, 3, 4] (i := 1) (oi := ⟨some 3, _, _, _, _, _⟩) (v := ?v2) rfl (by kernel_rfl) (by kernel_rfl) (by kernel_rfl) (by kernel_rfl) (fun _ _ _ h => h) (Or.inl ⟨rfl, ?c2⟩) hH ?r2
  case c2 => (intro w' _; go_simp; (try with_reducible rfl))
  try simp only [Act.put, List.setIfInBounds_toArray, List.set_cons_zero, List.set_cons_succ]
  refine anyF_take [3, 4] (i := 2) (oi := ⟨some 4, _, _, _, _, _⟩) (v := ?v3) rfl (by kernel_rfl) (by kernel_rfl) (by kernel_rfl) (by kernel_rfl) (fun _ _ _ h => h) (Or.inl ⟨rfl, ?c3⟩) hH ?r3
  case c3 => (intro w' _; go_simp; (try with_reducible rfl))
  try simp only [Act.put, List.setIfInBounds_toArray, List.set_cons_zero, List.set_cons_succ]
  refine anyF_take [4] (i := 3) (oi := ⟨some 5, _, _, _, _, _⟩) (v := ?v4) rfl (by kernel_rfl) (by kernel_rfl) (by kernel_rfl) (by kernel_rfl) (fun _ _ _ h => h) (Or.inl ⟨rfl, ?c4⟩) hH ?r4
  case c4 => (intro w' _; go_simp; (try with_reducible rfl))
  try simp only [Act.put, List.setIfInBounds_toArray, List.set_cons_zero, List.set_cons_succ]
  refine anyE_take (i := 4) (oi := ⟨some 6, _, _, _, _, _⟩) (v := ?v5) rfl (by kernel_rfl) (by kernel_rfl) (by kernel_rfl) (by kernel_rfl) (fun _ _ _ h => h) (Or.inl ⟨rfl, ?c5⟩) hH ?r5
  case c5 => (intro w' hS; (try dsimp only at hS); go_simp; (try with_reducible rfl))
  try simp only [Act.put, List.setIfInBounds_toArray, List.set_cons_zero, List.set_cons_succ]
  refine anyF_take [6] (i := 5) (oi := ⟨some 7, _, _, _, _, _⟩) (v := ?v6) rfl (by kernel_rfl) (by kernel_rfl) (by kernel_rfl) (by kernel_rfl) (fun _ _ _ h => h) (Or.inl ⟨rfl, ?c6⟩) hH ?r6
  case c6 => (intro w' _; go_simp; (try with_reducible rfl))
  try simp only [Act.put, List.setIfInBounds_toArray, List.set_cons_zero, List.set_cons_succ]
  refine anyE_ready (rs := [6]) (by kernel_rfl) (by simp) (AllE.cons rfl (fun K hK => ?_) (AllE.nil))
  go_simp
  go_at_call 200
  refine (until_any H0.out.drew HF.out.wg HE.out HF.out.cT).mono ?_
  rintro e w2 ⟨rfl, hy⟩
  refine hK.out _ _ (hy.cell 32 (.int .i64 r.tn) (fun _ _ => rfl)) (fun hH => ?_)
  clear hK K
  have H2 := Lib.hid hy
  clear hy H0
  try simp only [Act.put, List.setIfInBounds_toArray, List.set_cons_zero, List.set_cons_succ]
  refine anyE_ready (rs := [7]) (by kernel_rfl) (by simp) (AllE.end_ rfl (fun K hK => ?_))
  go_simp
  go_at_call 285
  refine (change_act H2.out HR.out HF.out HE.out HM.out r.tn (untilN b.C r) 1).mono ?_
  rintro e w3 ⟨rfl, hy⟩
  refine hK.out _ _ ?_
  clear hK K
  have H3 := Lib.hid hy
  clear hy H2
  try simp only [Act.put, List.setIfInBounds_toArray, List.set_cons_zero, List.set_cons_succ]
  refine anyE_done (by kernel_rfl) ?_ _
  clear hH
  go_wp2_with fail
  go_end0
  exact ⟨rfl, H3.out⟩
set_option maxHeartbeats 2000000 in
theorem count_act8 (H : Y b S r W) (hr : Rm 8 S) (hF : Fit b.C S r) (he : Env b.w0) : Calls Tryz.prog 99 #[ptr b.g] W (Yd b U ((countA S r).1) ((countA S r).2)) := by
  have HR := Lib.hid hr
  have HF := Lib.hid hF
  have HE := Lib.hid he
  have H0 := Lib.hid H
  have HL : Hid (S.ms.ls.length ≤ 1000000000000) := (hr.mono (Nat.zero_le _)).l
  by_cases hz : lookV S.ms r.v = 18446744073709551615
  · rw [show countA S r = countedA (ldS S r r.v) (ldC S r) by unfold countA; rw [if_pos hz]]
    have HZ : Hid ((lookV S.ms r.v == 18446744073709551615) = true) := by show _ = _; simpa using hz
    clear hz
    clear H hr hF he
    go_enter Tryz.func99, Tryz.ntmps99
    go_wp2_with fail
    refine wp_region_held_drew (S := fun w' => w'.cell? ⟨b.g, 0, none⟩ = some (ptr b.B) ∧ w'.cell? ⟨b.B, 18, none⟩ = some (ptr b.mb) ∧ w'.cell? ⟨b.g, 1, none⟩ = some (.int .i64 r.t) ∧ w'.cell? ⟨b.g, 8, none⟩ = some (.int .i64 r.v)) (by kernel_rfl) (⟨H0.out.drew.cell 0 (ptr b.B) (fun _ _ => rfl), H0.out.drew.shared 18 (ptr b.mb) (fun _ => rfl), H0.out.drew.cell 1 (.int .i64 r.t) (fun _ _ => rfl), H0.out.drew.cell 8 (.int .i64 r.v) (fun _ _ => rfl)⟩) (fun hH => ?_)
    refine wpAnyH_take (i := 0) (oi := ⟨some 2, _, _, _, _, _⟩) (v := ?v1) rfl (by kernel_rfl) (by kernel_rfl) (by kernel_rfl) (fun _ _ _ h => h) (Or.inl ⟨rfl, ?c1⟩) hH ?r1
    case c1 => (intro w' _; go_simp; (try with_reducible rfl))
    try simp only [Act.put, List.setIfInBounds_toArray, List.set_cons_zero, List.set_cons_succ]
    refine wpAnyH_take (i := 1) (oi := ⟨some 3, _, _, _, _, _⟩) (v := ?v2) rfl (by kernel_rfl) (by kernel_rfl) (by kernel_rfl) (fun _ _ _ h => h) (Or.inl ⟨rfl, ?c2⟩) hH ?r2
    case c2 => (intro w' _; go_simp; (try with_reducible rfl))
    try simp only [Act.put, List.setIfInBounds_toArray, List.set_cons_zero, List.set_cons_succ]
    refine wpAnyH_take (i := 2) (oi := ⟨some 4, _, _, _, _, _⟩) (v := ?v3) rfl (by kernel_rfl) (by kernel_rfl) (by kernel_rfl) (fun _ _ _ h => h) (Or.inl ⟨rfl, ?c3⟩) hH ?r3
    case c3 => (intro w' _; go_simp; (try with_reducible rfl))
    try simp only [Act.put, List.setIfInBounds_toArray, List.set_cons_zero, List.set_cons_succ]
    refine wpAnyH_take (i := 3) (oi := ⟨some 5, _, _, _, _, _⟩) (v := ?v4) rfl (by kernel_rfl) (by kernel_rfl) (by kernel_rfl) (fun _ _ _ h => h) (Or.inl ⟨rfl, ?c4⟩) hH ?r4
    case c4 => (intro w' _; go_simp; (try with_reducible rfl))
    try simp only [Act.put, List.setIfInBounds_toArray, List.set_cons_zero, List.set_cons_succ]
    refine wpAnyH_take (i := 4) (oi := ⟨some 6, _, _, _, _, _⟩) (v := ?v5) rfl (by kernel_rfl) (by kernel_rfl) (by kernel_rfl) (fun _ _ _ h => h) (Or.inl ⟨rfl, ?c5⟩) hH ?r5
    case c5 => (intro w' hS; (try dsimp only at hS); go_simp; (try with_reducible rfl))
    try simp only [Act.put, List.setIfInBounds_toArray, List.set_cons_zero, List.set_cons_succ]
    refine wpAnyH_take (i := 5) (oi := ⟨some 7, _, _, _, _, _⟩) (v := ?v6) rfl (by kernel_rfl) (by kernel_rfl) (by kernel_rfl) (fun _ _ _ h => h) (Or.inl ⟨rfl, ?c6⟩) hH ?r6
    case c6 => (intro w' _; go_simp; (try with_reducible rfl))
    try simp only [Act.put, List.setIfInBounds_toArray, List.set_cons_zero, List.set_cons_succ]
    refine wpAnyH_take (i := 6) (oi := ⟨some 8, _, _, _, _, _⟩) (v := ?v7) rfl (by kernel_rfl) (by kernel_rfl) (by kernel_rfl) (fun _ _ _ h => h) (Or.inl ⟨rfl, ?c7⟩) hH ?r7
    case c7 => (intro w' _; go_simp; (try with_reducible rfl))
    try simp only [Act.put, List.setIfInBounds_toArray, List.set_cons_zero, List.set_cons_succ]
    refine wpAnyH_take (i := 7) (oi := ⟨some 9, _, _, _, _, _⟩) (v := ?v8) rfl (by kernel_rfl) (by kernel_rfl) (by kernel_rfl) (fun _ _ _ h => h) (Or.inl ⟨rfl, ?c8⟩) hH ?r8
    case c8 => (intro w' hS; (try dsimp only at hS); go_simp; (try with_reducible rfl))
    try simp only [Act.put, List.setIfInBounds_toArray, List.set_cons_zero, List.set_cons_succ]
    refine wpAnyH_take (i := 8) (oi := ⟨some 10, _, _, _, _, _⟩) (v := ?v9) rfl (by kernel_rfl) (by kernel_rfl) (by kernel_rfl) (fun _ _ _ h => h) (Or.inl ⟨rfl, ?c9⟩) hH ?r9
    case c9 => (intro w' _; go_simp; (try with_reducible rfl))
    try simp only [Act.put, List.setIfInBounds_toArray, List.set_cons_zero, List.set_cons_succ]
    refine wpAnyH_take (i := 9) (oi := ⟨some 11, _, _, _, _, _⟩) (v := ?v10) rfl (by kernel_rfl) (by kernel_rfl) (by kernel_rfl) (fun _ _ _ h => h) (Or.inl ⟨rfl, ?c10⟩) hH ?r10
    case c10 => (intro w' _; go_simp; (try with_reducible rfl))
    try simp only [Act.put, List.setIfInBounds_toArray, List.set_cons_zero, List.set_cons_succ]
    refine wpAnyH_take (i := 10) (oi := ⟨some 12, _, _, _, _, _⟩) (v := ?v11) rfl (by kernel_rfl) (by kernel_rfl) (by kernel_rfl) (fun _ _ _ h => h) (Or.inl ⟨rfl, ?c11⟩) hH ?r11
    case c11 => (intro w' _; go_simp; (try with_reducible rfl))
    try simp only [Act.put, List.setIfInBounds_toArray, List.set_cons_zero, List.set_cons_succ]
    refine wpAnyH_take (i := 11) (oi := ⟨some 13, _, _, _, _, _⟩) (v := ?v12) rfl (by kernel_rfl) (by kernel_rfl) (by kernel_rfl) (fun _ _ _ h => h) (Or.inl ⟨rfl, ?c12⟩) hH ?r12
    case c12 => (intro w' hS; (try dsimp only at hS); go_simp; (try with_reducible rfl))
    try simp only [Act.put, List.setIfInBounds_toArray, List.set_cons_zero, List.set_cons_succ]
    refine wpAnyH_take (i := 12) (oi := ⟨some 14, _, _, _, _, _⟩) (v := ?v13) rfl (by kernel_rfl) (by kernel_rfl) (by kernel_rfl) (fun _ _ _ h => h) (Or.inl ⟨rfl, ?c13⟩) hH ?r13
    case c13 => (intro w' _; go_simp; (try with_reducible rfl))
    try simp only [Act.put, List.setIfInBounds_toArray, List.set_cons_zero, List.set_cons_succ]
    refine wpAnyH_take (i := 13) (oi := ⟨some 15, _, _, _, _, _⟩) (v := ?v14) rfl (by kernel_rfl) (by kernel_rfl) (by kernel_rfl) (fun _ _ _ h => h) (Or.inl ⟨rfl, ?c14⟩) hH ?r14
    case c14 => (intro w' _; go_simp; (try with_reducible rfl))
    try simp only [Act.put, List.setIfInBounds_toArray, List.set_cons_zero, List.set_cons_succ]
    refine wpAnyH_take (i := 14) (oi := ⟨some 16, _, _, _, _, _⟩) (v := ?v15) rfl (by kernel_rfl) (by kernel_rfl) (by kernel_rfl) (fun _ _ _ h => h) (Or.inl ⟨rfl, ?c15⟩) hH ?r15
    case c15 => (intro w' _; go_simp; (try with_reducible rfl))
    try simp only [Act.put, List.setIfInBounds_toArray, List.set_cons_zero, List.set_cons_succ]
    refine wpAnyH_take (i := 15) (oi := ⟨some 17, _, _, _, _, _⟩) (v := ?v16) rfl (by kernel_rfl) (by kernel_rfl) (by kernel_rfl) (fun _ _ _ h => h) (Or.inl ⟨rfl, ?c16⟩) hH ?r16
    case c16 => (intro w' _; go_simp; (try with_reducible rfl))
    try simp only [Act.put, List.setIfInBounds_toArray, List.set_cons_zero, List.set_cons_succ]
    refine wpAnyH_take (i := 16) (oi := ⟨some 18, _, _, _, _, _⟩) (v := ?v17) rfl (by kernel_rfl) (by kernel_rfl) (by kernel_rfl) (fun _ _ _ h => h) (Or.inl ⟨rfl, ?c17⟩) hH ?r17
    case c17 => (intro w' hS; (try dsimp only at hS); go_simp; (try with_reducible rfl))
    try simp only [Act.put, List.setIfInBounds_toArray, List.set_cons_zero, List.set_cons_succ]
    refine wpAnyH_ready (rs := [17]) (by kernel_rfl) (by simp) (AllReadyH.cons rfl (fun K hK => ?_) (AllReadyH.nil))
    go_simp
    go_at_call 109
    refine (H0.out.drew.does (fun Om h => Me.load_any h r.t r.v HL.out)).mono ?_
    rintro e w2 ⟨rfl, hy⟩
    refine hK.out _ _ (⟨hy.cell 0 (ptr b.B) (fun _ _ => rfl), hy.shared 18 (ptr b.mb) (fun _ => rfl), hy.cell 1 (.int .i64 r.t) (fun _ _ => rfl), hy.cell 8 (.int .i64 r.v) (fun _ _ => rfl)⟩) (fun hH => ?_)
    clear hK K
    have H2 := Lib.hid hy
    have H3 := Lib.hid (hy.set (r' := ldC S r) 36 (.int .u64 (lookV S.ms r.v)) (fun _ _ => rfl) rfl rfl)
    clear hy H0
    try simp only [Act.put, List.setIfInBounds_toArray, List.set_cons_zero, List.set_cons_succ]
    refine wpAnyH_take (i := 18) (oi := ⟨some 20, _, _, _, _, _⟩) (v := ?v18) rfl (by kernel_rfl) (by kernel_rfl) (by kernel_rfl) (fun _ _ _ h => h) (Or.inl ⟨rfl, ?c18⟩) hH ?r18
    case c18 => (intro w' _; go_simp; (try with_reducible rfl))
    try simp only [Act.put, List.setIfInBounds_toArray, List.set_cons_zero, List.set_cons_succ]
    refine wpAnyH_take (i := 19) (oi := ⟨some 21, _, _, _, _, _⟩) (v := ?v19) rfl (by kernel_rfl) (by kernel_rfl) (by kernel_rfl) (fun _ _ _ h => h) (Or.inl ⟨rfl, ?c19⟩) hH ?r19
    case c19 => (intro w' _; go_simp; (try with_reducible rfl))
    try simp only [Act.put, List.setIfInBounds_toArray, List.set_cons_zero, List.set_cons_succ]
    refine wpAnyH_ready (rs := [20]) (by kernel_rfl) (by simp) (AllReadyH.cons rfl (fun K hK => ?_) (AllReadyH.nil))
    have f0 := H2.out.frozen 36
    have c0 := H2.out.cell 36 _ (fun _ _ => rfl)
    go_simp
    clear c0 f0
    refine hK.out _ _ (⟨H3.out.cell 0 (ptr b.B) (fun _ _ => rfl), H3.out.shared 18 (ptr b.mb) (fun _ => rfl), H3.out.cell 1 (.int .i64 r.t) (fun _ _ => rfl), H3.out.cell 8 (.int .i64 r.v) (fun _ _ => rfl)⟩) (fun hH => ?_)
    clear hK K
    obtain ⟨w3, hw3⟩ : ∃ VV, w2.setCell ⟨b.g, 36, none⟩ (.int .u64 (lookV S.ms r.v)) = VV := ⟨_, rfl⟩
    rw [hw3] at H3 hH ⊢
    clear hw3 H2
    try simp only [Act.put, List.setIfInBounds_toArray, List.set_cons_zero, List.set_cons_succ]
    refine wpAnyH_done (by kernel_rfl) ?_ _
    clear hH
    have q0 : w3.cell? ⟨b.g, 36, none⟩ = some (.int .u64 (lookV S.ms r.v)) := H3.out.cell 36 _ (fun _ _ => rfl)
    have q1 := HZ.out
    go_wp2_with fail
    go_at_call 141
    refine (counted_any H3.out ((HR.out.ld r.v).mono (by omega))).mono ?_
    rintro e w4 ⟨rfl, hy⟩
    have H4 := Lib.hid hy
    clear hy q0 q1
    go_wp2_with fail
    go_end0
    exact ⟨rfl, H4.out⟩
  · rw [show countA S r = (ldS S r r.v, goto (ldC S r) .add) by unfold countA; rw [if_neg hz]]
    have HZ : Hid ((lookV S.ms r.v == 18446744073709551615) = false) := by show _ = _; simpa using hz
    clear hz
    clear H hr hF he
    go_enter Tryz.func99, Tryz.ntmps99
    go_wp2_with fail
    refine wp_region_held_drew (S := fun w' => w'.cell? ⟨b.g, 0, none⟩ = some (ptr b.B) ∧ w'.cell? ⟨b.B, 18, none⟩ = some (ptr b.mb) ∧ w'.cell? ⟨b.g, 1, none⟩ = some (.int .i64 r.t) ∧ w'.cell? ⟨b.g, 8, none⟩ = some (.int .i64 r.v)) (by kernel_rfl) (⟨H0.out.drew.cell 0 (ptr b.B) (fun _ _ => rfl), H0.out.drew.shared 18 (ptr b.mb) (fun _ => rfl), H0.out.drew.cell 1 (.int .i64 r.t) (fun _ _ => rfl), H0.out.drew.cell 8 (.int .i64 r.v) (fun _ _ => rfl)⟩) (fun hH => ?_)
    refine wpAnyH_take (i := 0) (oi := ⟨some 2, _, _, _, _, _⟩) (v := ?v20) rfl (by kernel_rfl) (by kernel_rfl) (by kernel_rfl) (fun _ _ _ h => h) (Or.inl ⟨rfl, ?c20⟩) hH ?r20
    case c20 => (intro w' _; go_simp; (try with_reducible rfl))
    try simp only [Act.put, List.setIfInBounds_toArray, List.set_cons_zero, List.set_cons_succ]
    refine wpAnyH_take (i := 1) (oi := ⟨some 3, _, _, _, _, _⟩) (v := ?v21) rfl (by kernel_rfl) (by kernel_rfl) (by kernel_rfl) (fun _ _ _ h => h) (Or.inl ⟨rfl, ?c21⟩) hH ?r21
    case c21 => (intro w' _; go_simp; (try with_reducible rfl))
    try simp only [Act.put, List.setIfInBounds_toArray, List.set_cons_zero, List.set_cons_succ]
    refine wpAnyH_take (i := 2) (oi := ⟨some 4, _, _, _, _, _⟩) (v := ?v22) rfl (by kernel_rfl) (by kernel_rfl) (by kernel_rfl) (fun _ _ _ h => h) (Or.inl ⟨rfl, ?c22⟩) hH ?r22
    case c22 => (intro w' _; go_simp; (try with_reducible rfl))
    try simp only [Act.put, List.setIfInBounds_toArray, List.set_cons_zero, List.set_cons_succ]
    refine wpAnyH_take (i := 3) (oi := ⟨some 5, _, _, _, _, _⟩) (v := ?v23) rfl (by kernel_rfl) (by kernel_rfl) (by kernel_rfl) (fun _ _ _ h => h) (Or.inl ⟨rfl, ?c23⟩) hH ?r23
    case c23 => (intro w' _; go_simp; (try with_reducible rfl))
    try simp only [Act.put, List.setIfInBounds_toArray, List.set_cons_zero, List.set_cons_succ]
    refine wpAnyH_take (i := 4) (oi := ⟨some 6, _, _, _, _, _⟩) (v := ?v24) rfl (by kernel_rfl) (by kernel_rfl) (by kernel_rfl) (fun _ _ _ h => h) (Or.inl ⟨rfl, ?c24⟩) hH ?r24
    case c24 => (intro w' hS; (try dsimp only at hS); go_simp; (try with_reducible rfl))
    try simp only [Act.put, List.setIfInBounds_toArray, List.set_cons_zero, List.set_cons_succ]
    refine wpAnyH_take (i := 5) (oi := ⟨some 7, _, _, _, _, _⟩) (v := ?v25) rfl (by kernel_rfl) (by kernel_rfl) (by kernel_rfl) (fun _ _ _ h => h) (Or.inl ⟨rfl, ?c25⟩) hH ?r25
    case c25 => (intro w' _; go_simp; (try with_reducible rfl))
    try simp only [Act.put, List.setIfInBounds_toArray, List.set_cons_zero, List.set_cons_succ]
    refine wpAnyH_take (i := 6) (oi := ⟨some 8, _, _, _, _, _⟩) (v := ?v26) rfl (by kernel_rfl) (by kernel_rfl) (by kernel_rfl) (fun _ _ _ h => h) (Or.inl ⟨rfl, ?c26⟩) hH ?r26
    case c26 => (intro w' _; go_simp; (try with_reducible rfl))
    try simp only [Act.put, List.setIfInBounds_toArray, List.set_cons_zero, List.set_cons_succ]
    refine wpAnyH_take (i := 7) (oi := ⟨some 9, _, _, _, _, _⟩) (v := ?v27) rfl (by kernel_rfl) (by kernel_rfl) (by kernel_rfl) (fun _ _ _ h => h) (Or.inl ⟨rfl, ?c27⟩) hH ?r27
    case c27 => (intro w' hS; (try dsimp only at hS); go_simp; (try with_reducible rfl))
    try simp only [Act.put, List.setIfInBounds_toArray, List.set_cons_zero, List.set_cons_succ]
    refine wpAnyH_take (i := 8) (oi := ⟨some 10, _, _, _, _, _⟩) (v := ?v28) rfl (by kernel_rfl) (by kernel_rfl) (by kernel_rfl) (fun _ _ _ h => h) (Or.inl ⟨rfl, ?c28⟩) hH ?r28
    case c28 => (intro w' _; go_simp; (try with_reducible rfl))
    try simp only [Act.put, List.setIfInBounds_toArray, List.set_cons_zero, List.set_cons_succ]
    refine wpAnyH_take (i := 9) (oi := ⟨some 11, _, _, _, _, _⟩) (v := ?v29) rfl (by kernel_rfl) (by kernel_rfl) (by kernel_rfl) (fun _ _ _ h => h) (Or.inl ⟨rfl, ?c29⟩) hH ?r29
    case c29 => (intro w' _; go_simp; (try with_reducible rfl))
    try simp only [Act.put, List.setIfInBounds_toArray, List.set_cons_zero, List.set_cons_succ]
    refine wpAnyH_take (i := 10) (oi := ⟨some 12, _, _, _, _, _⟩) (v := ?v30) rfl (by kernel_rfl) (by kernel_rfl) (by kernel_rfl) (fun _ _ _ h => h) (Or.inl ⟨rfl, ?c30⟩) hH ?r30
    case c30 => (intro w' _; go_simp; (try with_reducible rfl))
    try simp only [Act.put, List.setIfInBounds_toArray, List.set_cons_zero, List.set_cons_succ]
    refine wpAnyH_take (i := 11) (oi := ⟨some 13, _, _, _, _, _⟩) (v := ?v31) rfl (by kernel_rfl) (by kernel_rfl) (by kernel_rfl) (fun _ _ _ h => h) (Or.inl ⟨rfl, ?c31⟩) hH ?r31
    case c31 => (intro w' hS; (try dsimp only at hS); go_simp; (try with_reducible rfl))
    try simp only [Act.put, List.setIfInBounds_toArray, List.set_cons_zero, List.set_cons_succ]
    refine wpAnyH_take (i := 12) (oi := ⟨some 14, _, _, _, _, _⟩) (v := ?v32) rfl (by kernel_rfl) (by kernel_rfl) (by kernel_rfl) (fun _ _ _ h => h) (Or.inl ⟨rfl, ?c32⟩) hH ?r32
    case c32 => (intro w' _; go_simp; (try with_reducible rfl))
    try simp only [Act.put, List.setIfInBounds_toArray, List.set_cons_zero, List.set_cons_succ]
    refine wpAnyH_take (i := 13) (oi := ⟨some 15, _, _, _, _, _⟩) (v := ?v33) rfl (by kernel_rfl) (by kernel_rfl) (by kernel_rfl) (fun _ _ _ h => h) (Or.inl ⟨rfl, ?c33⟩) hH ?r33
    case c33 => (intro w' _; go_simp; (try with_reducible rfl))
    try simp only [Act.put, List.setIfInBounds_toArray, List.set_cons_zero, List.set_cons_succ]
    refine wpAnyH_take (i := 14) (oi := ⟨some 16, _, _, _, _, _⟩) (v := ?v34) rfl (by kernel_rfl) (by kernel_rfl) (by kernel_rfl) (fun _ _ _ h => h) (Or.inl ⟨rfl, ?c34⟩) hH ?r34
    case c34 => (intro w' _; go_simp; (try with_reducible rfl))
    try simp only [Act.put, List.setIfInBounds_toArray, List.set_cons_zero, List.set_cons_succ]
    refine wpAnyH_take (i := 15) (oi := ⟨some 17, _, _, _, _, _⟩) (v := ?v35) rfl (by kernel_rfl) (by kernel_rfl) (by kernel_rfl) (fun _ _ _ h => h) (Or.inl ⟨rfl, ?c35⟩) hH ?r35
    case c35 => (intro w' _; go_simp; (try with_reducible rfl))
    try simp only [Act.put, List.setIfInBounds_toArray, List.set_cons_zero, List.set_cons_succ]
    refine wpAnyH_take (i := 16) (oi := ⟨some 18, _, _, _, _, _⟩) (v := ?v36) rfl (by kernel_rfl) (by kernel_rfl) (by kernel_rfl) (fun _ _ _ h => h) (Or.inl ⟨rfl, ?c36⟩) hH ?r36
    case c36 => (intro w' hS; (try dsimp only at hS); go_simp; (try with_reducible rfl))
    try simp only [Act.put, List.setIfInBounds_toArray, List.set_cons_zero, List.set_cons_succ]
    refine wpAnyH_ready (rs := [17]) (by kernel_rfl) (by simp) (AllReadyH.cons rfl (fun K hK => ?_) (AllReadyH.nil))
    go_simp
    go_at_call 109
    refine (H0.out.drew.does (fun Om h => Me.load_any h r.t r.v HL.out)).mono ?_
    rintro e w2 ⟨rfl, hy⟩
    refine hK.out _ _ (⟨hy.cell 0 (ptr b.B) (fun _ _ => rfl), hy.shared 18 (ptr b.mb) (fun _ => rfl), hy.cell 1 (.int .i64 r.t) (fun _ _ => rfl), hy.cell 8 (.int .i64 r.v) (fun _ _ => rfl)⟩) (fun hH => ?_)
    clear hK K
    have H2 := Lib.hid hy
    have H3 := Lib.hid (hy.set (r' := ldC S r) 36 (.int .u64 (lookV S.ms r.v)) (fun _ _ => rfl) rfl rfl)
    clear hy H0
    try simp only [Act.put, List.setIfInBounds_toArray, List.set_cons_zero, List.set_cons_succ]
    refine wpAnyH_take (i := 18) (oi := ⟨some 20, _, _, _, _, _⟩) (v := ?v37) rfl (by kernel_rfl) (by kernel_rfl) (by kernel_rfl) (fun _ _ _ h => h) (Or.inl ⟨rfl, ?c37⟩) hH ?r37
    case c37 => (intro w' _; go_simp; (try with_reducible rfl))
    try simp only [Act.put, List.setIfInBounds_toArray, List.set_cons_zero, List.set_cons_succ]
    refine wpAnyH_take (i := 19) (oi := ⟨some 21, _, _, _, _, _⟩) (v := ?v38) rfl (by kernel_rfl) (by kernel_rfl) (by kernel_rfl) (fun _ _ _ h => h) (Or.inl ⟨rfl, ?c38⟩) hH ?r38
    case c38 => (intro w' _; go_simp; (try with_reducible rfl))
    try simp only [Act.put, List.setIfInBounds_toArray, List.set_cons_zero, List.set_cons_succ]
    refine wpAnyH_ready (rs := [20]) (by kernel_rfl) (by simp) (AllReadyH.cons rfl (fun K hK => ?_) (AllReadyH.nil))
    have f0 := H2.out.frozen 36
    have c0 := H2.out.cell 36 _ (fun _ _ => rfl)
    go_simp
    clear c0 f0
    refine hK.out _ _ (⟨H3.out.cell 0 (ptr b.B) (fun _ _ => rfl), H3.out.shared 18 (ptr b.mb) (fun _ => rfl), H3.out.cell 1 (.int .i64 r.t) (fun _ _ => rfl), H3.out.cell 8 (.int .i64 r.v) (fun _ _ => rfl)⟩) (fun hH => ?_)
    clear hK K
    obtain ⟨w3, hw3⟩ : ∃ VV, w2.setCell ⟨b.g, 36, none⟩ (.int .u64 (lookV S.ms r.v)) = VV := ⟨_, rfl⟩
    rw [hw3] at H3 hH ⊢
    clear hw3 H2
    try simp only [Act.put, List.setIfInBounds_toArray, List.set_cons_zero, List.set_cons_succ]
    refine wpAnyH_done (by kernel_rfl) ?_ _
    clear hH
    have q0 : w3.cell? ⟨b.g, 36, none⟩ = some (.int .u64 (lookV S.ms r.v)) := H3.out.cell 36 _ (fun _ _ => rfl)
    have q1 := HZ.out
    go_wp2_with fail
    go_at_call 37
    refine (then_any H3.out .add _ rfl).mono ?_
    rintro e w4 ⟨rfl, hy⟩
    have H4 := Lib.hid hy
    clear hy q0 q1
    go_wp2_with fail
    go_end0
    exact ⟨rfl, H4.out⟩
theorem count_act (H : Y b S r W) (hr : Rm 9 S) (hF : Fit b.C S r) (he : Env b.w0) : Calls Tryz.prog 99 #[ptr b.g] W (Yd b U (countA S r).1 (countA S r).2) := count_act8 H (hr.mono (by omega)) hF he
theorem malformed_act (H : Y b S r W) (hr : Rm 9 S) (hF : Fit b.C S r) (he : Env b.w0) : Calls Tryz.prog 64 #[ptr b.g] W (Yd b U ((malformedA S r).1) ((malformedA S r).2)) := by
  have HR := Lib.hid hr
  have HF := Lib.hid hF
  have HE := Lib.hid he
  have H0 := Lib.hid H
  have HS := Lib.hid (H0.out.set (r' := { r with v := 2 }) 8 (.int .i64 2) (fun _ _ => rfl) rfl rfl)
  have q0 := H0.out.frozen 8
  have q1 := H0.out.cell 8 (.int .i64 r.v) (fun _ _ => rfl)
  have HF2 : Hid (Fit b.C (say S r 2 k0 2 0) { r with v := 2 }) := ⟨hF.wf, hF.wg, hF.wc, hF.k, hF.p, hF.st, hF.cn, hF.cT, hF.z, fun h => by have := hF.mr h; show r.mr < (S.pts ++ _).length; rw [List.length_append]; omega, hF.q, hF.tt⟩
  clear H hr hF he
  go_enter Tryz.func64, Tryz.ntmps64
  go_wp2_with fail
  go_at_call 44
  refine (record0 HS.out (HR.out.mono (by omega)) 2 2 0).mono ?_
  rintro e w1 ⟨rfl, hy⟩
  have H1 := Lib.hid hy
  clear hy q0 q1
  go_wp2_with fail
  have HR8 : Hid (Rm 8 (say S r 2 k0 2 0)) := HR.out.say ..
  go_at_call 99
  refine (count_act8 H1.out HR8.out HF2.out HE.out).mono ?_
  rintro e w2 ⟨rfl, hy⟩
  have H2 := Lib.hid hy
  clear hy 
  go_wp2_with fail
  go_end0
  exact ⟨rfl, H2.out⟩
end
end Pg
end Go.Proofs.YtcockldefmmhbaaGreatDoor
/- Layer 21: Points. (Written by wip/tools/mkPrgU.py.) -/
set_option linter.unusedVariables false
set_option linter.unusedSimpArgs false
set_option maxRecDepth 100000
namespace Go.Proofs.YtcockldefmmhbaaGreatDoor
open Go.ChangeShapes Go.WideShapes Go.ChangeAt Go.RowKit Go.Mtl Go.Lib
namespace Pg
open MemM (Ms lookV loadS swapB swapS holdV lockB lockS unlockS touchS moreS)
open RulM (R)
open AutM (Ke)
open Me (ptr)
open Tb (TAt TM Fw)
/-- The points that are no marks. -/
def real (ps : List Pt) : List Pt := ps.filter fun p => decide (p.kd ≠ 0)
theorem real_snoc (ps : List Pt) (p : Pt) : real (ps ++ [p]) = if p.kd ≠ 0 then real ps ++ [p] else real ps := by
  unfold real
  rw [List.filter_append]
  by_cases h : p.kd = 0 <;> simp [h]
theorem take_snoc {α : Type} {l : List α} {j : Nat} {x : α} (h : l[j]? = some x) : l.take (j + 1) = l.take j ++ [x] := by
  rw [List.take_add_one, h]; rfl
theorem pcs_at {ps : List Pt} {j : Nat} {p : Pt} (h : ps[j]? = some p) (i : Nat) (hi : i < 10) : (pcs ps)[j * 10 + i]? = (ptc p)[i]? := by
  induction ps generalizing j with
  | nil => cases h
  | cons q ps ih =>
    cases j with
    | zero =>
      obtain rfl := Option.some.inj h
      rw [Nat.zero_mul, Nat.zero_add]
      show (ptc q ++ pcs ps)[i]? = _
      rw [List.getElem?_append_left (by simp; omega)]
    | succ j =>
      have := ih (show ps[j]? = some p from h)
      rw [← this]
      show (ptc q ++ pcs ps)[(j + 1) * 10 + i]? = _
      rw [List.getElem?_append_right (by simp; omega)]
      congr 1
      simp; omega
section
variable {b : Bs} {W : World} {Om Ot K : Nat → Prop} {pv : Value} {S : Sh}
/-- What the loop keeps. -/
structure PL (W : World) (ps : List Pt) (j : Nat) (A : Option Addr) (n c : Nat) (w : World) : Prop where
  row : w.ownsRow W.heap.size 89 10 (.slice A n c) n (pcs (real (ps.take j)))
  len : n = (real (ps.take j)).length
  bel : Below W.heap.size W w
set_option maxHeartbeats 4000000 in
theorem points_any (H : SR b Om Ot K pv S W) (hl : S.pts.length ≤ 900000000000) : Calls Tryz.prog 19 #[ptr b.B] W fun e w' => ∃ A c, e = .returned (.slice A (real S.pts).length c) ∧ w'.ownsRow W.heap.size 89 10 (.slice A (real S.pts).length c) (real S.pts).length (pcs (real S.pts)) ∧ Below W.heap.size W w' := by
  obtain ⟨Ap, cp, rfl, hc1, hc2⟩ := row_form H.pts
  have HP := Lib.hid H.pts
  have y0 := H.blk.cell 21 _ rfl
  have HN := Lib.hid hl
  obtain ⟨m, hm⟩ : ∃ m, S.pts.length = m := ⟨_, rfl⟩
  have HM := Lib.hid hm
  rw [hm] at y0 hc1 hl
  clear H hm
  go_enter Tryz.func19, Tryz.ntmps19
  go_wp2_with fail
  go_loopw [3, 13] (fun l i wr => ∃ (j : Nat) (A : Option Addr) (n c : Nat), j ≤ m ∧ i = .int .i64 (j : Int) ∧ l = .slice A n c ∧ Hid (PL W S.pts j A n c wr)) (fun _ i _ => m - (RowKit.intOf i).toNat)
  case atStart => exact ⟨0, none, 0, 0, by omega, rfl, rfl, (show Hid _ from ⟨World.ownsRow_nil _ _ _ _, rfl, Below.refl _ _⟩)⟩
  case round =>
    obtain ⟨j, A, n, c, hj, rfl, rfl, HL⟩ := hrel
    clear y0
    by_cases hlt : j < m
    · obtain ⟨p, hp⟩ : ∃ p, S.pts[j]? = some p := ⟨_, List.getElem?_eq_getElem (by have := HM.out; omega)⟩
      obtain ⟨gp, rfl⟩ : ∃ gp, Ap = some ⟨gp, 0, none⟩ := by
        rcases HP.out.2 with ⟨e, h0⟩ | ⟨g, cap, cur, e, _⟩
        · have := HM.out; omega
        · injection e with e; exact ⟨g, e⟩
      have hgp : gp < W.heap.size := (HP.out.lt gp rfl).2
      have c0 : wr.cell? ⟨gp, j * 10, none⟩ = some (.int .i64 p.kd) := (HL.out.bel.cell hgp).trans ((HP.out.cellAt (j * 10) (by have := HM.out; omega)).trans (pcs_at hp 0 (by omega)))
      have c1 : wr.cell? ⟨gp, j * 10 + 1, none⟩ = some (.int .i64 p.t) := (HL.out.bel.cell hgp).trans ((HP.out.cellAt (j * 10 + 1) (by have := HM.out; omega)).trans (pcs_at hp 1 (by omega)))
      have c2 : wr.cell? ⟨gp, j * 10 + 2, none⟩ = some (.int .i64 p.op) := (HL.out.bel.cell hgp).trans ((HP.out.cellAt (j * 10 + 2) (by have := HM.out; omega)).trans (pcs_at hp 2 (by omega)))
      have c3 : wr.cell? ⟨gp, j * 10 + 3, none⟩ = some (.int .u32 (p.k.a : Int)) := (HL.out.bel.cell hgp).trans ((HP.out.cellAt (j * 10 + 3) (by have := HM.out; omega)).trans (pcs_at hp 3 (by omega)))
      have c4 : wr.cell? ⟨gp, j * 10 + 4, none⟩ = some (.int .u32 (p.k.b : Int)) := (HL.out.bel.cell hgp).trans ((HP.out.cellAt (j * 10 + 4) (by have := HM.out; omega)).trans (pcs_at hp 4 (by omega)))
      have c5 : wr.cell? ⟨gp, j * 10 + 5, none⟩ = some (.int .u16 (p.k.p : Int)) := (HL.out.bel.cell hgp).trans ((HP.out.cellAt (j * 10 + 5) (by have := HM.out; omega)).trans (pcs_at hp 5 (by omega)))
      have c6 : wr.cell? ⟨gp, j * 10 + 6, none⟩ = some (.int .u16 (p.k.q : Int)) := (HL.out.bel.cell hgp).trans ((HP.out.cellAt (j * 10 + 6) (by have := HM.out; omega)).trans (pcs_at hp 6 (by omega)))
      have c7 : wr.cell? ⟨gp, j * 10 + 7, none⟩ = some (.int .u8 (p.k.r : Int)) := (HL.out.bel.cell hgp).trans ((HP.out.cellAt (j * 10 + 7) (by have := HM.out; omega)).trans (pcs_at hp 7 (by omega)))
      have c8 : wr.cell? ⟨gp, j * 10 + 8, none⟩ = some (.int .i64 p.v) := (HL.out.bel.cell hgp).trans ((HP.out.cellAt (j * 10 + 8) (by have := HM.out; omega)).trans (pcs_at hp 8 (by omega)))
      have c9 : wr.cell? ⟨gp, j * 10 + 9, none⟩ = some (.int .i64 p.n) := (HL.out.bel.cell hgp).trans ((HP.out.cellAt (j * 10 + 9) (by have := HM.out; omega)).trans (pcs_at hp 9 (by omega)))
      have HTK : Hid (real (S.pts.take (j + 1)) = if p.kd ≠ 0 then real (S.pts.take j) ++ [p] else real (S.pts.take j)) := by show _ = _; rw [take_snoc hp, real_snoc]
      have HWA := Lib.hid (below_box wr (.cells #[.int .i64 p.kd, .int .i64 p.t, .int .i64 p.op, .int .u32 (p.k.a : Int), .int .u32 (p.k.b : Int), .int .u16 (p.k.p : Int), .int .u16 (p.k.q : Int), .int .u8 (p.k.r : Int), .int .i64 p.v, .int .i64 p.n] 89))
      have hnl : n ≤ j := by have h1 := HL.out.len; have h2 : (real (S.pts.take j)).length ≤ (S.pts.take j).length := List.length_filter_le _ _; rw [List.length_take] at h2; omega
      by_cases hk : p.kd = 0
      · have d0 : (p.kd == 0) = true := by simpa using hk
        have HN2 : Hid (PL W S.pts (j + 1) A n c (wr.alloc (.cells #[.int .i64 p.kd, .int .i64 p.t, .int .i64 p.op, .int .u32 (p.k.a : Int), .int .u32 (p.k.b : Int), .int .u16 (p.k.p : Int), .int .u16 (p.k.q : Int), .int .u8 (p.k.r : Int), .int .i64 p.v, .int .i64 p.n] 89))) := by
          have h1 := HTK.out
          rw [if_neg (by simpa using hk)] at h1
          exact ⟨by rw [h1]; exact HL.out.row.alloc _, by rw [h1]; exact HL.out.len, HL.out.bel.alloc HL.out.bel.size _⟩
        clear hk hp hgp HTK HWA HL
        go_wp2_with fail
        go_roundw
        case rel => exact ⟨j + 1, A, n, c, by omega, by go_num, rfl, HN2⟩
        case measure => simp [RowKit.intOf]; omega
      · have d0 : (p.kd == 0) = false := by simpa using hk
        have HROW : Hid ((wr.alloc (.cells #[.int .i64 p.kd, .int .i64 p.t, .int .i64 p.op, .int .u32 (p.k.a : Int), .int .u32 (p.k.b : Int), .int .u16 (p.k.p : Int), .int .u16 (p.k.q : Int), .int .u8 (p.k.r : Int), .int .i64 p.v, .int .i64 p.n] 89)).ownsRow 0 89 10 (.slice A n c) n (pcs (real (S.pts.take j)))) := row_base (HL.out.row.alloc _) fun _ _ => Nat.zero_le _
        have HFIN : Hid (∀ A' c' w1, w1.ownsRow 0 89 10 (.slice A' (n + 1) c') (n + 1) (pcs (real (S.pts.take j)) ++ ptc p) → (wr.alloc (.cells #[.int .i64 p.kd, .int .i64 p.t, .int .i64 p.op, .int .u32 (p.k.a : Int), .int .u32 (p.k.b : Int), .int .u16 (p.k.p : Int), .int .u16 (p.k.q : Int), .int .u8 (p.k.r : Int), .int .i64 p.v, .int .i64 p.n] 89)).grownBy w1 (Value.slice A n c).ownBlock → ((Value.slice A' (n + 1) c').ownBlock = (Value.slice A n c).ownBlock ∨ ∃ g, (Value.slice A' (n + 1) c').ownBlock = some g ∧ (wr.alloc (.cells #[.int .i64 p.kd, .int .i64 p.t, .int .i64 p.op, .int .u32 (p.k.a : Int), .int .u32 (p.k.b : Int), .int .u16 (p.k.p : Int), .int .u16 (p.k.q : Int), .int .u8 (p.k.r : Int), .int .i64 p.v, .int .i64 p.n] 89)).heap.size ≤ g ∧ g < w1.heap.size) → PL W S.pts (j + 1) A' (n + 1) c' w1) := by
          intro A' c' w1 h1 h2 h3
          have e := HTK.out
          rw [if_pos (by simpa using hk)] at e
          have hs : W.heap.size ≤ (wr.alloc (.cells #[.int .i64 p.kd, .int .i64 p.t, .int .i64 p.op, .int .u32 (p.k.a : Int), .int .u32 (p.k.b : Int), .int .u16 (p.k.p : Int), .int .u16 (p.k.q : Int), .int .u8 (p.k.r : Int), .int .i64 p.v, .int .i64 p.n] 89)).heap.size := Nat.le_trans HL.out.bel.size HWA.out.size
          refine ⟨?_, by rw [e, List.length_append, ← HL.out.len]; rfl, ?_⟩
          · rw [e, pcs_add]
            refine row_base h1 fun g hg => ?_
            rcases h3 with h3 | ⟨g', h3, h4, _⟩
            · exact (HL.out.row.lt g (h3 ▸ hg)).1
            · rw [h3] at hg; obtain rfl := Option.some.inj hg; omega
          · exact (HL.out.bel.alloc HL.out.bel.size _).grown h2 hs fun k hk => (HL.out.row.lt k hk).1
        clear hk hp hgp HTK HWA HL
        go_wp2_with (at_builtin; refine wpList_push (n + 1) rfl _ _ 52 89 rfl Tryz.underlying52 _ 10 56 pt_info rfl (by omega) (by omega) _ _ _ rfl HROW.out (ptc p) rfl (by intro u hu; simp at hu; rcases hu with rfl | rfl | rfl | rfl | rfl | rfl | rfl | rfl | rfl | rfl <;> rfl) (by rw [World.size_alloc]; rfl) rfl (by omega) ?_; intro A' c' w1 h1 h2 h3; have HNX := Lib.hid (HFIN.out A' c' w1 h1.out h2.out h3.out); clear h1 h2 h3)
        go_roundw
        case rel => exact ⟨j + 1, A', n + 1, c', by omega, by go_num, rfl, HNX⟩
        case measure => simp [RowKit.intOf]; omega
    · obtain rfl : j = m := by omega
      have HFI : Hid (PL W S.pts S.pts.length A n c wr) := by rw [HM.out]; exact HL
      have hn : n = (real S.pts).length := by have := HFI.out.len; rwa [List.take_length] at this
      subst hn
      have HFR := Lib.hid HFI.out.row
      rw [List.take_length] at HFR
      have HFB := Lib.hid HFI.out.bel
      clear HL HFI
      go_wp2_with fail
      go_ret
      exact ⟨A, c, rfl, HFR.out, HFB.out⟩
end
end Pg
end Go.Proofs.YtcockldefmmhbaaGreatDoor
/- Layer 21: the acts, a third part. (Written by wip/tools/mkPrgJ.py.) -/
set_option linter.unusedVariables false
set_option linter.unusedSimpArgs false
set_option maxRecDepth 100000
namespace Go.Proofs.YtcockldefmmhbaaGreatDoor
open Go.ChangeShapes Go.WideShapes Go.ChangeAt Go.RowKit Go.Mtl Go.Lib
namespace Pg
open MemM (Ms lookV loadS swapB swapS holdV lockB lockS unlockS touchS moreS)
open RulM (R)
open AutM (Ke)
open Me (ptr)
open Tb (TAt TM Fw)
section
variable {b : Bs} {W : World} {S : Sh} {r : Rn}
set_option maxHeartbeats 4000000 in
theorem judge_act (H : Y b S r W) (hr : Rm 9 S) (hF : Fit b.C S r) (he : Env b.w0) : Calls Tryz.prog 206 #[ptr b.g] W (Yd b U ((judgeA S r).1) ((judgeA S r).2)) := by
  have HR := Lib.hid hr
  have HF := Lib.hid hF
  have HE := Lib.hid he
  have H0 := Lib.hid H
  have HW := Lib.hid (H.word 0)
  obtain ⟨nb, hnb⟩ : ∃ z, neB r = z := ⟨_, rfl⟩
  obtain ⟨nn, hnn⟩ : ∃ z, neN r = z := ⟨_, rfl⟩
  have HNX : Hid (∀ W, Calls Tryz.prog 257 #[.int .i64 (sF r.wf), .bool (r.dn != r.tu), .agg #[.int .u8 (r.p.pr : Int), .int .u32 (r.p.sr : Int), .int .u32 (r.p.ds : Int), .int .u16 (r.p.sp : Int), .int .u16 (r.p.dp : Int), .int .u8 (r.p.fl : Int), .int .u8 (r.p.kd : Int)]] W fun x w' => x = .returned (.tuple #[.int .i64 nn, .bool nb]) ∧ Below W.heap.size W w') := fun W => by
    rw [← hnn, ← hnb]
    exact Fs.next_any _ _ _ _ _ _ _ _ _ (by have := fitF hF.wf; have := this.v0; have := (fitF hF.wf).v1; omega) (by have := hF.p.fl; omega) W
  cases hz : isOver (ldG S r)
  · cases nb
    · have hj : judgeR (markR S (ldG S r)) = goto (markR S (ldG S r)) .sure := by unfold judgeR; rw [show isOver (markR S (ldG S r)) = false from hz, show neB (markR S (ldG S r)) = false from hnb]; rfl
      rw [show (judgeA S r).1 = markS (ldS S r 0) from rfl, show (judgeA S r).2 = _ from hj]
      have HZ : Hid (isOver (markR (ldS S r 0) (ldG S r)) = false) := hz
      clear hz hj
      clear H hr hF he
      try clear hnb hnn
      go_enter Tryz.func206, Tryz.ntmps206
      go_wp2_with fail
      go_at_call 71
      refine (loadGate_any H0.out (HR.out.mono (by omega))).mono ?_
      rintro e w1 ⟨rfl, hy⟩
      have H1 := Lib.hid hy
      clear hy
      go_wp2_with fail
      go_at_call 255
      refine (setMark_any H1.out ((HR.out.ld 0).mono (by omega))).mono ?_
      rintro e w2 ⟨rfl, hy⟩
      have H2 := Lib.hid hy
      clear hy
      go_wp2_with fail
      have HO := Lib.hid (isOver_any H2.out HW.out HF.out.wf HE.out)
      rw [HZ.out] at HO
      go_at_call 145
      refine HO.out.mono ?_
      rintro e w3 ⟨rfl, hy⟩
      have H3 := Lib.hid hy
      clear hy HO H1 H2
      go_wp2_with fail
      refine wp_region_held_drew (S := fun w' => w'.cell? ⟨b.g, 34, none⟩ = some (.int .u64 r.wf) ∧ w'.cell? ⟨b.g, 19, none⟩ = some (.bool r.dn) ∧ w'.cell? ⟨b.g, 31, none⟩ = some (.bool r.tu) ∧ w'.cell? ⟨b.g, 12, none⟩ = some (.int .u8 (r.p.pr : Int)) ∧ w'.cell? ⟨b.g, 13, none⟩ = some (.int .u32 (r.p.sr : Int)) ∧ w'.cell? ⟨b.g, 14, none⟩ = some (.int .u32 (r.p.ds : Int)) ∧ w'.cell? ⟨b.g, 15, none⟩ = some (.int .u16 (r.p.sp : Int)) ∧ w'.cell? ⟨b.g, 16, none⟩ = some (.int .u16 (r.p.dp : Int)) ∧ w'.cell? ⟨b.g, 17, none⟩ = some (.int .u8 (r.p.fl : Int)) ∧ w'.cell? ⟨b.g, 18, none⟩ = some (.int .u8 (r.p.kd : Int))) (by kernel_rfl) (⟨H3.out.drew.cell 34 (.int .u64 r.wf) (fun _ _ => rfl), H3.out.drew.cell 19 (.bool r.dn) (fun _ _ => rfl), H3.out.drew.cell 31 (.bool r.tu) (fun _ _ => rfl), H3.out.drew.cell 12 (.int .u8 (r.p.pr : Int)) (fun _ _ => rfl), H3.out.drew.cell 13 (.int .u32 (r.p.sr : Int)) (fun _ _ => rfl), H3.out.drew.cell 14 (.int .u32 (r.p.ds : Int)) (fun _ _ => rfl), H3.out.drew.cell 15 (.int .u16 (r.p.sp : Int)) (fun _ _ => rfl), H3.out.drew.cell 16 (.int .u16 (r.p.dp : Int)) (fun _ _ => rfl), H3.out.drew.cell 17 (.int .u8 (r.p.fl : Int)) (fun _ _ => rfl), H3.out.drew.cell 18 (.int .u8 (r.p.kd : Int)) (fun _ _ => rfl)⟩) (fun hH => ?_)
      refine wpAnyH_take (i := 0) (oi := ⟨some 17, _, _, _, _, _⟩) (v := ?v1) rfl (by kernel_rfl) (by kernel_rfl) (by kernel_rfl) (fun _ _ _ h => h) (Or.inl ⟨rfl, ?c1⟩) hH ?r1
      case c1 => (intro w' _; go_simp; (try with_reducible rfl))
      try simp only [Act.put, List.setIfInBounds_toArray, List.set_cons_zero, List.set_cons_succ]
      refine wpAnyH_take (i := 1) (oi := ⟨some 18, _, _, _, _, _⟩) (v := ?v2) rfl (by kernel_rfl) (by kernel_rfl) (by kernel_rfl) (fun _ _ _ h => h) (Or.inl ⟨rfl, ?c2⟩) hH ?r2
      case c2 => (intro w' _; go_simp; (try with_reducible rfl))
      try simp only [Act.put, List.setIfInBounds_toArray, List.set_cons_zero, List.set_cons_succ]
      refine wpAnyH_take (i := 2) (oi := ⟨some 19, _, _, _, _, _⟩) (v := ?v3) rfl (by kernel_rfl) (by kernel_rfl) (by kernel_rfl) (fun _ _ _ h => h) (Or.inl ⟨rfl, ?c3⟩) hH ?r3
      case c3 => (intro w' _; go_simp; (try with_reducible rfl))
      try simp only [Act.put, List.setIfInBounds_toArray, List.set_cons_zero, List.set_cons_succ]
      refine wpAnyH_take (i := 3) (oi := ⟨some 20, _, _, _, _, _⟩) (v := ?v4) rfl (by kernel_rfl) (by kernel_rfl) (by kernel_rfl) (fun _ _ _ h => h) (Or.inl ⟨rfl, ?c4⟩) hH ?r4
      case c4 => (intro w' hS; (try dsimp only at hS); go_simp; (try with_reducible rfl))
      try simp only [Act.put, List.setIfInBounds_toArray, List.set_cons_zero, List.set_cons_succ]
      refine wpAnyH_take (i := 6) (oi := ⟨some 23, _, _, _, _, _⟩) (v := ?v5) rfl (by kernel_rfl) (by kernel_rfl) (by kernel_rfl) (fun _ _ _ h => h) (Or.inl ⟨rfl, ?c5⟩) hH ?r5
      case c5 => (intro w' _; go_simp; (try with_reducible rfl))
      try simp only [Act.put, List.setIfInBounds_toArray, List.set_cons_zero, List.set_cons_succ]
      refine wpAnyH_take (i := 7) (oi := ⟨some 24, _, _, _, _, _⟩) (v := ?v6) rfl (by kernel_rfl) (by kernel_rfl) (by kernel_rfl) (fun _ _ _ h => h) (Or.inl ⟨rfl, ?c6⟩) hH ?r6
      case c6 => (intro w' _; go_simp; (try with_reducible rfl))
      try simp only [Act.put, List.setIfInBounds_toArray, List.set_cons_zero, List.set_cons_succ]
      refine wpAnyH_take (i := 8) (oi := ⟨some 25, _, _, _, _, _⟩) (v := ?v7) rfl (by kernel_rfl) (by kernel_rfl) (by kernel_rfl) (fun _ _ _ h => h) (Or.inl ⟨rfl, ?c7⟩) hH ?r7
      case c7 => (intro w' _; go_simp; (try with_reducible rfl))
      try simp only [Act.put, List.setIfInBounds_toArray, List.set_cons_zero, List.set_cons_succ]
      refine wpAnyH_take (i := 9) (oi := ⟨some 26, _, _, _, _, _⟩) (v := ?v8) rfl (by kernel_rfl) (by kernel_rfl) (by kernel_rfl) (fun _ _ _ h => h) (Or.inl ⟨rfl, ?c8⟩) hH ?r8
      case c8 => (intro w' hS; (try dsimp only at hS); go_simp; (try with_reducible rfl))
      try simp only [Act.put, List.setIfInBounds_toArray, List.set_cons_zero, List.set_cons_succ]
      refine wpAnyH_take (i := 10) (oi := ⟨some 27, _, _, _, _, _⟩) (v := ?v9) rfl (by kernel_rfl) (by kernel_rfl) (by kernel_rfl) (fun _ _ _ h => h) (Or.inl ⟨rfl, ?c9⟩) hH ?r9
      case c9 => (intro w' _; go_simp; (try with_reducible rfl))
      try simp only [Act.put, List.setIfInBounds_toArray, List.set_cons_zero, List.set_cons_succ]
      refine wpAnyH_take (i := 11) (oi := ⟨some 28, _, _, _, _, _⟩) (v := ?v10) rfl (by kernel_rfl) (by kernel_rfl) (by kernel_rfl) (fun _ _ _ h => h) (Or.inl ⟨rfl, ?c10⟩) hH ?r10
      case c10 => (intro w' _; go_simp; (try with_reducible rfl))
      try simp only [Act.put, List.setIfInBounds_toArray, List.set_cons_zero, List.set_cons_succ]
      refine wpAnyH_take (i := 12) (oi := ⟨some 29, _, _, _, _, _⟩) (v := ?v11) rfl (by kernel_rfl) (by kernel_rfl) (by kernel_rfl) (fun _ _ _ h => h) (Or.inl ⟨rfl, ?c11⟩) hH ?r11
      case c11 => (intro w' _; go_simp; (try with_reducible rfl))
      try simp only [Act.put, List.setIfInBounds_toArray, List.set_cons_zero, List.set_cons_succ]
      refine wpAnyH_take (i := 13) (oi := ⟨some 30, _, _, _, _, _⟩) (v := ?v12) rfl (by kernel_rfl) (by kernel_rfl) (by kernel_rfl) (fun _ _ _ h => h) (Or.inl ⟨rfl, ?c12⟩) hH ?r12
      case c12 => (intro w' hS; (try dsimp only at hS); go_simp; (try with_reducible rfl))
      try simp only [Act.put, List.setIfInBounds_toArray, List.set_cons_zero, List.set_cons_succ]
      refine wpAnyH_take (i := 14) (oi := ⟨some 31, _, _, _, _, _⟩) (v := ?v13) rfl (by kernel_rfl) (by kernel_rfl) (by kernel_rfl) (fun _ _ _ h => h) (Or.inl ⟨rfl, ?c13⟩) hH ?r13
      case c13 => (intro w' _; go_simp; (try with_reducible rfl))
      try simp only [Act.put, List.setIfInBounds_toArray, List.set_cons_zero, List.set_cons_succ]
      refine wpAnyH_take (i := 15) (oi := ⟨some 32, _, _, _, _, _⟩) (v := ?v14) rfl (by kernel_rfl) (by kernel_rfl) (by kernel_rfl) (fun _ _ _ h => h) (Or.inl ⟨rfl, ?c14⟩) hH ?r14
      case c14 => (intro w' _; go_simp; (try with_reducible rfl))
      try simp only [Act.put, List.setIfInBounds_toArray, List.set_cons_zero, List.set_cons_succ]
      refine wpAnyH_take (i := 16) (oi := ⟨some 33, _, _, _, _, _⟩) (v := ?v15) rfl (by kernel_rfl) (by kernel_rfl) (by kernel_rfl) (fun _ _ _ h => h) (Or.inl ⟨rfl, ?c15⟩) hH ?r15
      case c15 => (intro w' _; go_simp; (try with_reducible rfl))
      try simp only [Act.put, List.setIfInBounds_toArray, List.set_cons_zero, List.set_cons_succ]
      refine wpAnyH_take (i := 17) (oi := ⟨some 34, _, _, _, _, _⟩) (v := ?v16) rfl (by kernel_rfl) (by kernel_rfl) (by kernel_rfl) (fun _ _ _ h => h) (Or.inl ⟨rfl, ?c16⟩) hH ?r16
      case c16 => (intro w' _; go_simp; (try with_reducible rfl))
      try simp only [Act.put, List.setIfInBounds_toArray, List.set_cons_zero, List.set_cons_succ]
      refine wpAnyH_take (i := 18) (oi := ⟨some 35, _, _, _, _, _⟩) (v := ?v17) rfl (by kernel_rfl) (by kernel_rfl) (by kernel_rfl) (fun _ _ _ h => h) (Or.inl ⟨rfl, ?c17⟩) hH ?r17
      case c17 => (intro w' hS; (try dsimp only at hS); go_simp; (try with_reducible rfl))
      try simp only [Act.put, List.setIfInBounds_toArray, List.set_cons_zero, List.set_cons_succ]
      refine wpAnyH_ready (rs := [4]) (by kernel_rfl) (by simp) (AllReadyH.cons rfl (fun K hK => ?_) (AllReadyH.nil))
      go_simp
      go_at_call 205
      refine (unpackF HF.out.wf _ (H3.out.drew.env HE.out)).mono ?_
      rintro e w4 ⟨rfl, hy⟩
      refine hK.out _ _ (⟨(H3.out.drew.next hy).cell 34 (.int .u64 r.wf) (fun _ _ => rfl), (H3.out.drew.next hy).cell 19 (.bool r.dn) (fun _ _ => rfl), (H3.out.drew.next hy).cell 31 (.bool r.tu) (fun _ _ => rfl), (H3.out.drew.next hy).cell 12 (.int .u8 (r.p.pr : Int)) (fun _ _ => rfl), (H3.out.drew.next hy).cell 13 (.int .u32 (r.p.sr : Int)) (fun _ _ => rfl), (H3.out.drew.next hy).cell 14 (.int .u32 (r.p.ds : Int)) (fun _ _ => rfl), (H3.out.drew.next hy).cell 15 (.int .u16 (r.p.sp : Int)) (fun _ _ => rfl), (H3.out.drew.next hy).cell 16 (.int .u16 (r.p.dp : Int)) (fun _ _ => rfl), (H3.out.drew.next hy).cell 17 (.int .u8 (r.p.fl : Int)) (fun _ _ => rfl), (H3.out.drew.next hy).cell 18 (.int .u8 (r.p.kd : Int)) (fun _ _ => rfl)⟩) (fun hH => ?_)
      clear hK K
      have H4 := Lib.hid (H3.out.drew.next hy)
      clear hy H3
      try simp only [Act.put, List.setIfInBounds_toArray, List.set_cons_zero, List.set_cons_succ]
      refine wpAnyH_take (i := 5) (oi := ⟨some 22, _, _, _, _, _⟩) (v := ?v18) rfl (by kernel_rfl) (by kernel_rfl) (by kernel_rfl) (fun _ _ _ h => h) (Or.inl ⟨rfl, ?c18⟩) hH ?r18
      case c18 => (intro w' _; have q := flow_s (sF r.wf) (nF r.wf) (cF r.wf) w'; go_simp; (try with_reducible rfl))
      try simp only [Act.put, List.setIfInBounds_toArray, List.set_cons_zero, List.set_cons_succ]
      refine wpAnyH_ready (rs := [19]) (by kernel_rfl) (by simp) (AllReadyH.cons rfl (fun K hK => ?_) (AllReadyH.nil))
      go_simp
      go_at_call 257
      refine (HNX.out _).mono ?_
      rintro e w5 ⟨rfl, hy⟩
      refine hK.out _ _ (⟨(H4.out.next hy).cell 34 (.int .u64 r.wf) (fun _ _ => rfl), (H4.out.next hy).cell 19 (.bool r.dn) (fun _ _ => rfl), (H4.out.next hy).cell 31 (.bool r.tu) (fun _ _ => rfl), (H4.out.next hy).cell 12 (.int .u8 (r.p.pr : Int)) (fun _ _ => rfl), (H4.out.next hy).cell 13 (.int .u32 (r.p.sr : Int)) (fun _ _ => rfl), (H4.out.next hy).cell 14 (.int .u32 (r.p.ds : Int)) (fun _ _ => rfl), (H4.out.next hy).cell 15 (.int .u16 (r.p.sp : Int)) (fun _ _ => rfl), (H4.out.next hy).cell 16 (.int .u16 (r.p.dp : Int)) (fun _ _ => rfl), (H4.out.next hy).cell 17 (.int .u8 (r.p.fl : Int)) (fun _ _ => rfl), (H4.out.next hy).cell 18 (.int .u8 (r.p.kd : Int)) (fun _ _ => rfl)⟩) (fun hH => ?_)
      clear hK K
      have H5 := Lib.hid (H4.out.next hy)
      clear hy H4
      try simp only [Act.put, List.setIfInBounds_toArray, List.set_cons_zero, List.set_cons_succ]
      refine wpAnyH_take (i := 20) (oi := ⟨some 16, _, _, _, _, _⟩) (v := ?v19) rfl (by kernel_rfl) (by kernel_rfl) (by kernel_rfl) (fun _ _ _ h => h) (Or.inl ⟨rfl, ?c19⟩) hH ?r19
      case c19 => (intro w' _; go_simp; (try with_reducible rfl))
      try simp only [Act.put, List.setIfInBounds_toArray, List.set_cons_zero, List.set_cons_succ]
      refine wpAnyH_take (i := 21) (oi := ⟨some 37, _, _, _, _, _⟩) (v := ?v20) rfl (by kernel_rfl) (by kernel_rfl) (by kernel_rfl) (fun _ _ _ h => h) (Or.inl ⟨rfl, ?c20⟩) hH ?r20
      case c20 => (intro w' _; go_simp; (try with_reducible rfl))
      try simp only [Act.put, List.setIfInBounds_toArray, List.set_cons_zero, List.set_cons_succ]
      refine wpAnyH_take (i := 22) (oi := ⟨some 38, _, _, _, _, _⟩) (v := ?v21) rfl (by kernel_rfl) (by kernel_rfl) (by kernel_rfl) (fun _ _ _ h => h) (Or.inl ⟨rfl, ?c21⟩) hH ?r21
      case c21 => (intro w' _; go_simp; (try with_reducible rfl))
      try simp only [Act.put, List.setIfInBounds_toArray, List.set_cons_zero, List.set_cons_succ]
      refine wpAnyH_take (i := 23) (oi := ⟨some 2, _, _, _, _, _⟩) (v := ?v22) rfl (by kernel_rfl) (by kernel_rfl) (by kernel_rfl) (fun _ _ _ h => h) (Or.inl ⟨rfl, ?c22⟩) hH ?r22
      case c22 => (intro w' _; go_simp; (try with_reducible rfl))
      try simp only [Act.put, List.setIfInBounds_toArray, List.set_cons_zero, List.set_cons_succ]
      refine wpAnyH_take (i := 24) (oi := ⟨some 3, _, _, _, _, _⟩) (v := ?v23) rfl (by kernel_rfl) (by kernel_rfl) (by kernel_rfl) (fun _ _ _ h => h) (Or.inl ⟨rfl, ?c23⟩) hH ?r23
      case c23 => (intro w' _; go_simp; (try with_reducible rfl))
      try simp only [Act.put, List.setIfInBounds_toArray, List.set_cons_zero, List.set_cons_succ]
      refine wpAnyH_done (by kernel_rfl) ?_ _
      clear hH
      go_wp2_with fail
      go_at_call 37
      refine (then_any H5.out .sure _ rfl).mono ?_
      rintro e w6 ⟨rfl, hy⟩
      have H6 := Lib.hid hy
      clear hy
      (try clear q0 q1 HS)
      go_wp2_with fail
      go_end0
      exact ⟨rfl, H6.out⟩
    · have hj : judgeR (markR S (ldG S r)) = { markR S (ldG S r) with tn := nn, at_ := .advance } := by unfold judgeR; rw [show isOver (markR S (ldG S r)) = false from hz, show neB (markR S (ldG S r)) = true from hnb, show neN (markR S (ldG S r)) = nn from hnn]; rfl
      rw [show (judgeA S r).1 = markS (ldS S r 0) from rfl, show (judgeA S r).2 = _ from hj]
      have HZ : Hid (isOver (markR (ldS S r 0) (ldG S r)) = false) := hz
      clear hz hj
      clear H hr hF he
      try clear hnb hnn
      go_enter Tryz.func206, Tryz.ntmps206
      go_wp2_with fail
      go_at_call 71
      refine (loadGate_any H0.out (HR.out.mono (by omega))).mono ?_
      rintro e w1 ⟨rfl, hy⟩
      have H1 := Lib.hid hy
      clear hy
      go_wp2_with fail
      go_at_call 255
      refine (setMark_any H1.out ((HR.out.ld 0).mono (by omega))).mono ?_
      rintro e w2 ⟨rfl, hy⟩
      have H2 := Lib.hid hy
      clear hy
      go_wp2_with fail
      have HO := Lib.hid (isOver_any H2.out HW.out HF.out.wf HE.out)
      rw [HZ.out] at HO
      go_at_call 145
      refine HO.out.mono ?_
      rintro e w3 ⟨rfl, hy⟩
      have H3 := Lib.hid hy
      clear hy HO H1 H2
      go_wp2_with fail
      refine wp_region_held_drew (S := fun w' => w'.cell? ⟨b.g, 34, none⟩ = some (.int .u64 r.wf) ∧ w'.cell? ⟨b.g, 19, none⟩ = some (.bool r.dn) ∧ w'.cell? ⟨b.g, 31, none⟩ = some (.bool r.tu) ∧ w'.cell? ⟨b.g, 12, none⟩ = some (.int .u8 (r.p.pr : Int)) ∧ w'.cell? ⟨b.g, 13, none⟩ = some (.int .u32 (r.p.sr : Int)) ∧ w'.cell? ⟨b.g, 14, none⟩ = some (.int .u32 (r.p.ds : Int)) ∧ w'.cell? ⟨b.g, 15, none⟩ = some (.int .u16 (r.p.sp : Int)) ∧ w'.cell? ⟨b.g, 16, none⟩ = some (.int .u16 (r.p.dp : Int)) ∧ w'.cell? ⟨b.g, 17, none⟩ = some (.int .u8 (r.p.fl : Int)) ∧ w'.cell? ⟨b.g, 18, none⟩ = some (.int .u8 (r.p.kd : Int))) (by kernel_rfl) (⟨H3.out.drew.cell 34 (.int .u64 r.wf) (fun _ _ => rfl), H3.out.drew.cell 19 (.bool r.dn) (fun _ _ => rfl), H3.out.drew.cell 31 (.bool r.tu) (fun _ _ => rfl), H3.out.drew.cell 12 (.int .u8 (r.p.pr : Int)) (fun _ _ => rfl), H3.out.drew.cell 13 (.int .u32 (r.p.sr : Int)) (fun _ _ => rfl), H3.out.drew.cell 14 (.int .u32 (r.p.ds : Int)) (fun _ _ => rfl), H3.out.drew.cell 15 (.int .u16 (r.p.sp : Int)) (fun _ _ => rfl), H3.out.drew.cell 16 (.int .u16 (r.p.dp : Int)) (fun _ _ => rfl), H3.out.drew.cell 17 (.int .u8 (r.p.fl : Int)) (fun _ _ => rfl), H3.out.drew.cell 18 (.int .u8 (r.p.kd : Int)) (fun _ _ => rfl)⟩) (fun hH => ?_)
      refine wpAnyH_take (i := 0) (oi := ⟨some 17, _, _, _, _, _⟩) (v := ?v24) rfl (by kernel_rfl) (by kernel_rfl) (by kernel_rfl) (fun _ _ _ h => h) (Or.inl ⟨rfl, ?c24⟩) hH ?r24
      case c24 => (intro w' _; go_simp; (try with_reducible rfl))
      try simp only [Act.put, List.setIfInBounds_toArray, List.set_cons_zero, List.set_cons_succ]
      refine wpAnyH_take (i := 1) (oi := ⟨some 18, _, _, _, _, _⟩) (v := ?v25) rfl (by kernel_rfl) (by kernel_rfl) (by kernel_rfl) (fun _ _ _ h => h) (Or.inl ⟨rfl, ?c25⟩) hH ?r25
      case c25 => (intro w' _; go_simp; (try with_reducible rfl))
      try simp only [Act.put, List.setIfInBounds_toArray, List.set_cons_zero, List.set_cons_succ]
      refine wpAnyH_take (i := 2) (oi := ⟨some 19, _, _, _, _, _⟩) (v := ?v26) rfl (by kernel_rfl) (by kernel_rfl) (by kernel_rfl) (fun _ _ _ h => h) (Or.inl ⟨rfl, ?c26⟩) hH ?r26
      case c26 => (intro w' _; go_simp; (try with_reducible rfl))
      try simp only [Act.put, List.setIfInBounds_toArray, List.set_cons_zero, List.set_cons_succ]
      refine wpAnyH_take (i := 3) (oi := ⟨some 20, _, _, _, _, _⟩) (v := ?v27) rfl (by kernel_rfl) (by kernel_rfl) (by kernel_rfl) (fun _ _ _ h => h) (Or.inl ⟨rfl, ?c27⟩) hH ?r27
      case c27 => (intro w' hS; (try dsimp only at hS); go_simp; (try with_reducible rfl))
      try simp only [Act.put, List.setIfInBounds_toArray, List.set_cons_zero, List.set_cons_succ]
      refine wpAnyH_take (i := 6) (oi := ⟨some 23, _, _, _, _, _⟩) (v := ?v28) rfl (by kernel_rfl) (by kernel_rfl) (by kernel_rfl) (fun _ _ _ h => h) (Or.inl ⟨rfl, ?c28⟩) hH ?r28
      case c28 => (intro w' _; go_simp; (try with_reducible rfl))
      try simp only [Act.put, List.setIfInBounds_toArray, List.set_cons_zero, List.set_cons_succ]
      refine wpAnyH_take (i := 7) (oi := ⟨some 24, _, _, _, _, _⟩) (v := ?v29) rfl (by kernel_rfl) (by kernel_rfl) (by kernel_rfl) (fun _ _ _ h => h) (Or.inl ⟨rfl, ?c29⟩) hH ?r29
      case c29 => (intro w' _; go_simp; (try with_reducible rfl))
      try simp only [Act.put, List.setIfInBounds_toArray, List.set_cons_zero, List.set_cons_succ]
      refine wpAnyH_take (i := 8) (oi := ⟨some 25, _, _, _, _, _⟩) (v := ?v30) rfl (by kernel_rfl) (by kernel_rfl) (by kernel_rfl) (fun _ _ _ h => h) (Or.inl ⟨rfl, ?c30⟩) hH ?r30
      case c30 => (intro w' _; go_simp; (try with_reducible rfl))
      try simp only [Act.put, List.setIfInBounds_toArray, List.set_cons_zero, List.set_cons_succ]
      refine wpAnyH_take (i := 9) (oi := ⟨some 26, _, _, _, _, _⟩) (v := ?v31) rfl (by kernel_rfl) (by kernel_rfl) (by kernel_rfl) (fun _ _ _ h => h) (Or.inl ⟨rfl, ?c31⟩) hH ?r31
      case c31 => (intro w' hS; (try dsimp only at hS); go_simp; (try with_reducible rfl))
      try simp only [Act.put, List.setIfInBounds_toArray, List.set_cons_zero, List.set_cons_succ]
      refine wpAnyH_take (i := 10) (oi := ⟨some 27, _, _, _, _, _⟩) (v := ?v32) rfl (by kernel_rfl) (by kernel_rfl) (by kernel_rfl) (fun _ _ _ h => h) (Or.inl ⟨rfl, ?c32⟩) hH ?r32
      case c32 => (intro w' _; go_simp; (try with_reducible rfl))
      try simp only [Act.put, List.setIfInBounds_toArray, List.set_cons_zero, List.set_cons_succ]
      refine wpAnyH_take (i := 11) (oi := ⟨some 28, _, _, _, _, _⟩) (v := ?v33) rfl (by kernel_rfl) (by kernel_rfl) (by kernel_rfl) (fun _ _ _ h => h) (Or.inl ⟨rfl, ?c33⟩) hH ?r33
      case c33 => (intro w' _; go_simp; (try with_reducible rfl))
      try simp only [Act.put, List.setIfInBounds_toArray, List.set_cons_zero, List.set_cons_succ]
      refine wpAnyH_take (i := 12) (oi := ⟨some 29, _, _, _, _, _⟩) (v := ?v34) rfl (by kernel_rfl) (by kernel_rfl) (by kernel_rfl) (fun _ _ _ h => h) (Or.inl ⟨rfl, ?c34⟩) hH ?r34
      case c34 => (intro w' _; go_simp; (try with_reducible rfl))
      try simp only [Act.put, List.setIfInBounds_toArray, List.set_cons_zero, List.set_cons_succ]
      refine wpAnyH_take (i := 13) (oi := ⟨some 30, _, _, _, _, _⟩) (v := ?v35) rfl (by kernel_rfl) (by kernel_rfl) (by kernel_rfl) (fun _ _ _ h => h) (Or.inl ⟨rfl, ?c35⟩) hH ?r35
      case c35 => (intro w' hS; (try dsimp only at hS); go_simp; (try with_reducible rfl))
      try simp only [Act.put, List.setIfInBounds_toArray, List.set_cons_zero, List.set_cons_succ]
      refine wpAnyH_take (i := 14) (oi := ⟨some 31, _, _, _, _, _⟩) (v := ?v36) rfl (by kernel_rfl) (by kernel_rfl) (by kernel_rfl) (fun _ _ _ h => h) (Or.inl ⟨rfl, ?c36⟩) hH ?r36
      case c36 => (intro w' _; go_simp; (try with_reducible rfl))
      try simp only [Act.put, List.setIfInBounds_toArray, List.set_cons_zero, List.set_cons_succ]
      refine wpAnyH_take (i := 15) (oi := ⟨some 32, _, _, _, _, _⟩) (v := ?v37) rfl (by kernel_rfl) (by kernel_rfl) (by kernel_rfl) (fun _ _ _ h => h) (Or.inl ⟨rfl, ?c37⟩) hH ?r37
      case c37 => (intro w' _; go_simp; (try with_reducible rfl))
      try simp only [Act.put, List.setIfInBounds_toArray, List.set_cons_zero, List.set_cons_succ]
      refine wpAnyH_take (i := 16) (oi := ⟨some 33, _, _, _, _, _⟩) (v := ?v38) rfl (by kernel_rfl) (by kernel_rfl) (by kernel_rfl) (fun _ _ _ h => h) (Or.inl ⟨rfl, ?c38⟩) hH ?r38
      case c38 => (intro w' _; go_simp; (try with_reducible rfl))
      try simp only [Act.put, List.setIfInBounds_toArray, List.set_cons_zero, List.set_cons_succ]
      refine wpAnyH_take (i := 17) (oi := ⟨some 34, _, _, _, _, _⟩) (v := ?v39) rfl (by kernel_rfl) (by kernel_rfl) (by kernel_rfl) (fun _ _ _ h => h) (Or.inl ⟨rfl, ?c39⟩) hH ?r39
      case c39 => (intro w' _; go_simp; (try with_reducible rfl))
      try simp only [Act.put, List.setIfInBounds_toArray, List.set_cons_zero, List.set_cons_succ]
      refine wpAnyH_take (i := 18) (oi := ⟨some 35, _, _, _, _, _⟩) (v := ?v40) rfl (by kernel_rfl) (by kernel_rfl) (by kernel_rfl) (fun _ _ _ h => h) (Or.inl ⟨rfl, ?c40⟩) hH ?r40
      case c40 => (intro w' hS; (try dsimp only at hS); go_simp; (try with_reducible rfl))
      try simp only [Act.put, List.setIfInBounds_toArray, List.set_cons_zero, List.set_cons_succ]
      refine wpAnyH_ready (rs := [4]) (by kernel_rfl) (by simp) (AllReadyH.cons rfl (fun K hK => ?_) (AllReadyH.nil))
      go_simp
      go_at_call 205
      refine (unpackF HF.out.wf _ (H3.out.drew.env HE.out)).mono ?_
      rintro e w4 ⟨rfl, hy⟩
      refine hK.out _ _ (⟨(H3.out.drew.next hy).cell 34 (.int .u64 r.wf) (fun _ _ => rfl), (H3.out.drew.next hy).cell 19 (.bool r.dn) (fun _ _ => rfl), (H3.out.drew.next hy).cell 31 (.bool r.tu) (fun _ _ => rfl), (H3.out.drew.next hy).cell 12 (.int .u8 (r.p.pr : Int)) (fun _ _ => rfl), (H3.out.drew.next hy).cell 13 (.int .u32 (r.p.sr : Int)) (fun _ _ => rfl), (H3.out.drew.next hy).cell 14 (.int .u32 (r.p.ds : Int)) (fun _ _ => rfl), (H3.out.drew.next hy).cell 15 (.int .u16 (r.p.sp : Int)) (fun _ _ => rfl), (H3.out.drew.next hy).cell 16 (.int .u16 (r.p.dp : Int)) (fun _ _ => rfl), (H3.out.drew.next hy).cell 17 (.int .u8 (r.p.fl : Int)) (fun _ _ => rfl), (H3.out.drew.next hy).cell 18 (.int .u8 (r.p.kd : Int)) (fun _ _ => rfl)⟩) (fun hH => ?_)
      clear hK K
      have H4 := Lib.hid (H3.out.drew.next hy)
      clear hy H3
      try simp only [Act.put, List.setIfInBounds_toArray, List.set_cons_zero, List.set_cons_succ]
      refine wpAnyH_take (i := 5) (oi := ⟨some 22, _, _, _, _, _⟩) (v := ?v41) rfl (by kernel_rfl) (by kernel_rfl) (by kernel_rfl) (fun _ _ _ h => h) (Or.inl ⟨rfl, ?c41⟩) hH ?r41
      case c41 => (intro w' _; have q := flow_s (sF r.wf) (nF r.wf) (cF r.wf) w'; go_simp; (try with_reducible rfl))
      try simp only [Act.put, List.setIfInBounds_toArray, List.set_cons_zero, List.set_cons_succ]
      refine wpAnyH_ready (rs := [19]) (by kernel_rfl) (by simp) (AllReadyH.cons rfl (fun K hK => ?_) (AllReadyH.nil))
      go_simp
      go_at_call 257
      refine (HNX.out _).mono ?_
      rintro e w5 ⟨rfl, hy⟩
      refine hK.out _ _ (⟨(H4.out.next hy).cell 34 (.int .u64 r.wf) (fun _ _ => rfl), (H4.out.next hy).cell 19 (.bool r.dn) (fun _ _ => rfl), (H4.out.next hy).cell 31 (.bool r.tu) (fun _ _ => rfl), (H4.out.next hy).cell 12 (.int .u8 (r.p.pr : Int)) (fun _ _ => rfl), (H4.out.next hy).cell 13 (.int .u32 (r.p.sr : Int)) (fun _ _ => rfl), (H4.out.next hy).cell 14 (.int .u32 (r.p.ds : Int)) (fun _ _ => rfl), (H4.out.next hy).cell 15 (.int .u16 (r.p.sp : Int)) (fun _ _ => rfl), (H4.out.next hy).cell 16 (.int .u16 (r.p.dp : Int)) (fun _ _ => rfl), (H4.out.next hy).cell 17 (.int .u8 (r.p.fl : Int)) (fun _ _ => rfl), (H4.out.next hy).cell 18 (.int .u8 (r.p.kd : Int)) (fun _ _ => rfl)⟩) (fun hH => ?_)
      clear hK K
      have H5 := Lib.hid (H4.out.next hy)
      clear hy H4
      try simp only [Act.put, List.setIfInBounds_toArray, List.set_cons_zero, List.set_cons_succ]
      refine wpAnyH_take (i := 20) (oi := ⟨some 16, _, _, _, _, _⟩) (v := ?v42) rfl (by kernel_rfl) (by kernel_rfl) (by kernel_rfl) (fun _ _ _ h => h) (Or.inl ⟨rfl, ?c42⟩) hH ?r42
      case c42 => (intro w' _; go_simp; (try with_reducible rfl))
      try simp only [Act.put, List.setIfInBounds_toArray, List.set_cons_zero, List.set_cons_succ]
      refine wpAnyH_take (i := 21) (oi := ⟨some 37, _, _, _, _, _⟩) (v := ?v43) rfl (by kernel_rfl) (by kernel_rfl) (by kernel_rfl) (fun _ _ _ h => h) (Or.inl ⟨rfl, ?c43⟩) hH ?r43
      case c43 => (intro w' _; go_simp; (try with_reducible rfl))
      try simp only [Act.put, List.setIfInBounds_toArray, List.set_cons_zero, List.set_cons_succ]
      refine wpAnyH_take (i := 22) (oi := ⟨some 38, _, _, _, _, _⟩) (v := ?v44) rfl (by kernel_rfl) (by kernel_rfl) (by kernel_rfl) (fun _ _ _ h => h) (Or.inl ⟨rfl, ?c44⟩) hH ?r44
      case c44 => (intro w' _; go_simp; (try with_reducible rfl))
      try simp only [Act.put, List.setIfInBounds_toArray, List.set_cons_zero, List.set_cons_succ]
      refine wpAnyH_take (i := 23) (oi := ⟨some 2, _, _, _, _, _⟩) (v := ?v45) rfl (by kernel_rfl) (by kernel_rfl) (by kernel_rfl) (fun _ _ _ h => h) (Or.inl ⟨rfl, ?c45⟩) hH ?r45
      case c45 => (intro w' _; go_simp; (try with_reducible rfl))
      try simp only [Act.put, List.setIfInBounds_toArray, List.set_cons_zero, List.set_cons_succ]
      refine wpAnyH_take (i := 24) (oi := ⟨some 3, _, _, _, _, _⟩) (v := ?v46) rfl (by kernel_rfl) (by kernel_rfl) (by kernel_rfl) (fun _ _ _ h => h) (Or.inl ⟨rfl, ?c46⟩) hH ?r46
      case c46 => (intro w' _; go_simp; (try with_reducible rfl))
      try simp only [Act.put, List.setIfInBounds_toArray, List.set_cons_zero, List.set_cons_succ]
      refine wpAnyH_done (by kernel_rfl) ?_ _
      clear hH
      have HS := Lib.hid (H5.out.set (r' := { markR S (ldG S r) with tn := nn }) 32 (.int .i64 nn) (fun _ _ => rfl) rfl rfl)
      have q0 := H5.out.frozen 32
      have q1 : w5.cell? ⟨b.g, 32, none⟩ = some (.int .i64 r.tn) := H5.out.cell 32 _ (fun _ _ => rfl)
      go_wp2_with fail
      go_at_call 37
      refine (then_any HS.out .advance _ rfl).mono ?_
      rintro e w6 ⟨rfl, hy⟩
      have H6 := Lib.hid hy
      clear hy
      (try clear q0 q1 HS)
      go_wp2_with fail
      go_end0
      exact ⟨rfl, H6.out⟩
  · have hj : judgeR (markR S (ldG S r)) = lockTo (markR S (ldG S r)) r.st .look := by unfold judgeR; rw [show isOver (markR S (ldG S r)) = true from hz]; rfl
    rw [show (judgeA S r).1 = markS (ldS S r 0) from rfl, show (judgeA S r).2 = _ from hj]
    have HZ : Hid (isOver (markR (ldS S r 0) (ldG S r)) = true) := hz
    clear hz hj
    clear H hr hF he
    try clear hnb hnn
    go_enter Tryz.func206, Tryz.ntmps206
    go_wp2_with fail
    go_at_call 71
    refine (loadGate_any H0.out (HR.out.mono (by omega))).mono ?_
    rintro e w1 ⟨rfl, hy⟩
    have H1 := Lib.hid hy
    clear hy
    go_wp2_with fail
    go_at_call 255
    refine (setMark_any H1.out ((HR.out.ld 0).mono (by omega))).mono ?_
    rintro e w2 ⟨rfl, hy⟩
    have H2 := Lib.hid hy
    clear hy
    go_wp2_with fail
    have HO := Lib.hid (isOver_any H2.out HW.out HF.out.wf HE.out)
    rw [HZ.out] at HO
    go_at_call 145
    refine HO.out.mono ?_
    rintro e w3 ⟨rfl, hy⟩
    have H3 := Lib.hid hy
    clear hy HO H1 H2
    have q0 : w3.cell? ⟨b.g, 23, none⟩ = some (.int .i64 (r.st : Int)) := H3.out.cell 23 _ (fun _ _ => rfl)
    go_wp2_with fail
    go_at_call 69
    refine (lockThen_any H3.out (r.st : Int) .look _ rfl).mono ?_
    rintro e w4 ⟨rfl, hy⟩
    have H4 := Lib.hid hy
    clear hy q0
    go_wp2_with fail
    go_end0
    exact ⟨rfl, H4.out⟩
set_option maxHeartbeats 2000000 in
theorem add_act (H : Y b S r W) (hr : Rm 9 S) (hF : Fit b.C S r) (he : Env b.w0) : Calls Tryz.prog 142 #[ptr b.g] W (Yd b U ((addA S r).1) ((addA S r).2)) := by
  have HR := Lib.hid hr
  have HF := Lib.hid hF
  have HE := Lib.hid he
  have H0 := Lib.hid H
  have HL : Hid (S.ms.ls.length ≤ 1000000000000) := (hr.mono (Nat.zero_le _)).l
  obtain ⟨z, hzz⟩ : ∃ z, (r.wc + 1) % 18446744073709551616 = z := ⟨_, rfl⟩
  have HWZ : Hid (0 ≤ z ∧ z ≤ 18446744073709551615) := by show _ ∧ _; omega
  have HM : Hid (IntKind.u64.wrap (r.wc + 1) = z) := by show _ = _; rw [← hzz]; simp [IntKind.wrap, IntKind.bits, IntKind.signed]
  cases hz : swapB S.ms r.v r.wc
  · rw [show addA S r = (swS S r r.v r.wc z, goto r .count) by unfold addA; rw [hz, hzz]; rfl]
    have HZ : Hid (swapB S.ms r.v r.wc = false) := hz
    clear hz hzz
    clear H hr hF he
    go_enter Tryz.func142, Tryz.ntmps142
    go_wp2_with fail
    refine wp_region_held_drew (S := fun w' => w'.cell? ⟨b.g, 0, none⟩ = some (ptr b.B) ∧ w'.cell? ⟨b.B, 18, none⟩ = some (ptr b.mb) ∧ w'.cell? ⟨b.g, 1, none⟩ = some (.int .i64 r.t) ∧ w'.cell? ⟨b.g, 8, none⟩ = some (.int .i64 r.v) ∧ w'.cell? ⟨b.g, 36, none⟩ = some (.int .u64 r.wc)) (by kernel_rfl) (⟨H0.out.drew.cell 0 (ptr b.B) (fun _ _ => rfl), H0.out.drew.shared 18 (ptr b.mb) (fun _ => rfl), H0.out.drew.cell 1 (.int .i64 r.t) (fun _ _ => rfl), H0.out.drew.cell 8 (.int .i64 r.v) (fun _ _ => rfl), H0.out.drew.cell 36 (.int .u64 r.wc) (fun _ _ => rfl)⟩) (fun hH => ?_)
    refine wpAnyH_take (i := 0) (oi := ⟨some 2, _, _, _, _, _⟩) (v := ?v1) rfl (by kernel_rfl) (by kernel_rfl) (by kernel_rfl) (fun _ _ _ h => h) (Or.inl ⟨rfl, ?c1⟩) hH ?r1
    case c1 => (intro w' _; go_simp; (try with_reducible rfl))
    try simp only [Act.put, List.setIfInBounds_toArray, List.set_cons_zero, List.set_cons_succ]
    refine wpAnyH_take (i := 1) (oi := ⟨some 3, _, _, _, _, _⟩) (v := ?v2) rfl (by kernel_rfl) (by kernel_rfl) (by kernel_rfl) (fun _ _ _ h => h) (Or.inl ⟨rfl, ?c2⟩) hH ?r2
    case c2 => (intro w' _; go_simp; (try with_reducible rfl))
    try simp only [Act.put, List.setIfInBounds_toArray, List.set_cons_zero, List.set_cons_succ]
    refine wpAnyH_take (i := 2) (oi := ⟨some 4, _, _, _, _, _⟩) (v := ?v3) rfl (by kernel_rfl) (by kernel_rfl) (by kernel_rfl) (fun _ _ _ h => h) (Or.inl ⟨rfl, ?c3⟩) hH ?r3
    case c3 => (intro w' _; go_simp; (try with_reducible rfl))
    try simp only [Act.put, List.setIfInBounds_toArray, List.set_cons_zero, List.set_cons_succ]
    refine wpAnyH_take (i := 3) (oi := ⟨some 5, _, _, _, _, _⟩) (v := ?v4) rfl (by kernel_rfl) (by kernel_rfl) (by kernel_rfl) (fun _ _ _ h => h) (Or.inl ⟨rfl, ?c4⟩) hH ?r4
    case c4 => (intro w' hS; (try dsimp only at hS); go_simp; (try with_reducible rfl))
    try simp only [Act.put, List.setIfInBounds_toArray, List.set_cons_zero, List.set_cons_succ]
    refine wpAnyH_take (i := 4) (oi := ⟨some 6, _, _, _, _, _⟩) (v := ?v5) rfl (by kernel_rfl) (by kernel_rfl) (by kernel_rfl) (fun _ _ _ h => h) (Or.inl ⟨rfl, ?c5⟩) hH ?r5
    case c5 => (intro w' _; go_simp; (try with_reducible rfl))
    try simp only [Act.put, List.setIfInBounds_toArray, List.set_cons_zero, List.set_cons_succ]
    refine wpAnyH_take (i := 5) (oi := ⟨some 7, _, _, _, _, _⟩) (v := ?v6) rfl (by kernel_rfl) (by kernel_rfl) (by kernel_rfl) (fun _ _ _ h => h) (Or.inl ⟨rfl, ?c6⟩) hH ?r6
    case c6 => (intro w' _; go_simp; (try with_reducible rfl))
    try simp only [Act.put, List.setIfInBounds_toArray, List.set_cons_zero, List.set_cons_succ]
    refine wpAnyH_take (i := 6) (oi := ⟨some 8, _, _, _, _, _⟩) (v := ?v7) rfl (by kernel_rfl) (by kernel_rfl) (by kernel_rfl) (fun _ _ _ h => h) (Or.inl ⟨rfl, ?c7⟩) hH ?r7
    case c7 => (intro w' hS; (try dsimp only at hS); go_simp; (try with_reducible rfl))
    try simp only [Act.put, List.setIfInBounds_toArray, List.set_cons_zero, List.set_cons_succ]
    refine wpAnyH_take (i := 7) (oi := ⟨some 9, _, _, _, _, _⟩) (v := ?v8) rfl (by kernel_rfl) (by kernel_rfl) (by kernel_rfl) (fun _ _ _ h => h) (Or.inl ⟨rfl, ?c8⟩) hH ?r8
    case c8 => (intro w' _; go_simp; (try with_reducible rfl))
    try simp only [Act.put, List.setIfInBounds_toArray, List.set_cons_zero, List.set_cons_succ]
    refine wpAnyH_take (i := 8) (oi := ⟨some 10, _, _, _, _, _⟩) (v := ?v9) rfl (by kernel_rfl) (by kernel_rfl) (by kernel_rfl) (fun _ _ _ h => h) (Or.inl ⟨rfl, ?c9⟩) hH ?r9
    case c9 => (intro w' _; go_simp; (try with_reducible rfl))
    try simp only [Act.put, List.setIfInBounds_toArray, List.set_cons_zero, List.set_cons_succ]
    refine wpAnyH_take (i := 9) (oi := ⟨some 11, _, _, _, _, _⟩) (v := ?v10) rfl (by kernel_rfl) (by kernel_rfl) (by kernel_rfl) (fun _ _ _ h => h) (Or.inl ⟨rfl, ?c10⟩) hH ?r10
    case c10 => (intro w' _; go_simp; (try with_reducible rfl))
    try simp only [Act.put, List.setIfInBounds_toArray, List.set_cons_zero, List.set_cons_succ]
    refine wpAnyH_take (i := 10) (oi := ⟨some 12, _, _, _, _, _⟩) (v := ?v11) rfl (by kernel_rfl) (by kernel_rfl) (by kernel_rfl) (fun _ _ _ h => h) (Or.inl ⟨rfl, ?c11⟩) hH ?r11
    case c11 => (intro w' hS; (try dsimp only at hS); go_simp; (try with_reducible rfl))
    try simp only [Act.put, List.setIfInBounds_toArray, List.set_cons_zero, List.set_cons_succ]
    refine wpAnyH_take (i := 11) (oi := ⟨some 13, _, _, _, _, _⟩) (v := ?v12) rfl (by kernel_rfl) (by kernel_rfl) (by kernel_rfl) (fun _ _ _ h => h) (Or.inl ⟨rfl, ?c12⟩) hH ?r12
    case c12 => (intro w' _; go_simp; (try with_reducible rfl))
    try simp only [Act.put, List.setIfInBounds_toArray, List.set_cons_zero, List.set_cons_succ]
    refine wpAnyH_take (i := 12) (oi := ⟨some 14, _, _, _, _, _⟩) (v := ?v13) rfl (by kernel_rfl) (by kernel_rfl) (by kernel_rfl) (fun _ _ _ h => h) (Or.inl ⟨rfl, ?c13⟩) hH ?r13
    case c13 => (intro w' _; go_simp; (try with_reducible rfl))
    try simp only [Act.put, List.setIfInBounds_toArray, List.set_cons_zero, List.set_cons_succ]
    refine wpAnyH_take (i := 13) (oi := ⟨some 15, _, _, _, _, _⟩) (v := ?v14) rfl (by kernel_rfl) (by kernel_rfl) (by kernel_rfl) (fun _ _ _ h => h) (Or.inl ⟨rfl, ?c14⟩) hH ?r14
    case c14 => (intro w' _; go_simp; (try with_reducible rfl))
    try simp only [Act.put, List.setIfInBounds_toArray, List.set_cons_zero, List.set_cons_succ]
    refine wpAnyH_take (i := 14) (oi := ⟨some 16, _, _, _, _, _⟩) (v := ?v15) rfl (by kernel_rfl) (by kernel_rfl) (by kernel_rfl) (fun _ _ _ h => h) (Or.inl ⟨rfl, ?c15⟩) hH ?r15
    case c15 => (intro w' _; go_simp; (try with_reducible rfl))
    try simp only [Act.put, List.setIfInBounds_toArray, List.set_cons_zero, List.set_cons_succ]
    refine wpAnyH_take (i := 15) (oi := ⟨some 17, _, _, _, _, _⟩) (v := ?v16) rfl (by kernel_rfl) (by kernel_rfl) (by kernel_rfl) (fun _ _ _ h => h) (Or.inl ⟨rfl, ?c16⟩) hH ?r16
    case c16 => (intro w' hS; (try dsimp only at hS); go_simp; (try with_reducible rfl))
    try simp only [Act.put, List.setIfInBounds_toArray, List.set_cons_zero, List.set_cons_succ]
    refine wpAnyH_take (i := 16) (oi := ⟨some 18, _, _, _, _, _⟩) (v := ?v17) rfl (by kernel_rfl) (by kernel_rfl) (by kernel_rfl) (fun _ _ _ h => h) (Or.inl ⟨rfl, ?c17⟩) hH ?r17
    case c17 => (intro w' _; go_simp; (try with_reducible rfl))
    try simp only [Act.put, List.setIfInBounds_toArray, List.set_cons_zero, List.set_cons_succ]
    refine wpAnyH_take (i := 17) (oi := ⟨some 19, _, _, _, _, _⟩) (v := ?v18) rfl (by kernel_rfl) (by kernel_rfl) (by kernel_rfl) (fun _ _ _ h => h) (Or.inl ⟨rfl, ?c18⟩) hH ?r18
    case c18 => (intro w' _; go_simp; (try with_reducible rfl))
    try simp only [Act.put, List.setIfInBounds_toArray, List.set_cons_zero, List.set_cons_succ]
    refine wpAnyH_take (i := 18) (oi := ⟨some 20, _, _, _, _, _⟩) (v := ?v19) rfl (by kernel_rfl) (by kernel_rfl) (by kernel_rfl) (fun _ _ _ h => h) (Or.inl ⟨rfl, ?c19⟩) hH ?r19
    case c19 => (intro w' _; go_simp; (try with_reducible rfl))
    try simp only [Act.put, List.setIfInBounds_toArray, List.set_cons_zero, List.set_cons_succ]
    refine wpAnyH_take (i := 19) (oi := ⟨some 21, _, _, _, _, _⟩) (v := ?v20) rfl (by kernel_rfl) (by kernel_rfl) (by kernel_rfl) (fun _ _ _ h => h) (Or.inl ⟨rfl, ?c20⟩) hH ?r20
    case c20 => (intro w' hS; (try dsimp only at hS); go_simp; (try with_reducible rfl))
    try simp only [Act.put, List.setIfInBounds_toArray, List.set_cons_zero, List.set_cons_succ]
    refine wpAnyH_take (i := 20) (oi := ⟨some 22, _, _, _, _, _⟩) (v := ?v21) rfl (by kernel_rfl) (by kernel_rfl) (by kernel_rfl) (fun _ _ _ h => h) (Or.inl ⟨rfl, ?c21⟩) hH ?r21
    case c21 => (intro w' _; go_simp; (try with_reducible rfl))
    try simp only [Act.put, List.setIfInBounds_toArray, List.set_cons_zero, List.set_cons_succ]
    refine wpAnyH_take (i := 21) (oi := ⟨some 23, _, _, _, _, _⟩) (v := ?v22) rfl (by kernel_rfl) (by kernel_rfl) (by kernel_rfl) (fun _ _ _ h => h) (Or.inl ⟨rfl, ?c22⟩) hH ?r22
    case c22 => (intro w' _; go_simp; (try with_reducible rfl))
    try simp only [Act.put, List.setIfInBounds_toArray, List.set_cons_zero, List.set_cons_succ]
    refine wpAnyH_take (i := 22) (oi := ⟨some 24, _, _, _, _, _⟩) (v := ?v23) rfl (by kernel_rfl) (by kernel_rfl) (by kernel_rfl) (fun _ _ _ h => h) (Or.inl ⟨rfl, ?c23⟩) hH ?r23
    case c23 => (intro w' _; go_simp; (try with_reducible rfl))
    try simp only [Act.put, List.setIfInBounds_toArray, List.set_cons_zero, List.set_cons_succ]
    refine wpAnyH_take (i := 23) (oi := ⟨some 25, _, _, _, _, _⟩) (v := ?v24) rfl (by kernel_rfl) (by kernel_rfl) (by kernel_rfl) (fun _ _ _ h => h) (Or.inl ⟨rfl, ?c24⟩) hH ?r24
    case c24 => (intro w' hS; (try dsimp only at hS); go_simp; (try with_reducible rfl))
    try simp only [Act.put, List.setIfInBounds_toArray, List.set_cons_zero, List.set_cons_succ]
    refine wpAnyH_take (i := 24) (oi := ⟨some 26, _, _, _, _, _⟩) (v := ?v25) rfl (by kernel_rfl) (by kernel_rfl) (by kernel_rfl) (fun _ _ _ h => h) (Or.inl ⟨rfl, ?c25⟩) hH ?r25
    case c25 => (intro w' _; go_simp; (try rw [HM.out]); (try with_reducible rfl))
    try simp only [Act.put, List.setIfInBounds_toArray, List.set_cons_zero, List.set_cons_succ]
    refine wpAnyH_ready (rs := [25]) (by kernel_rfl) (by simp) (AllReadyH.cons rfl (fun K hK => ?_) (AllReadyH.nil))
    go_simp
    go_at_call 154
    refine (H0.out.drew.does (fun Om h => HZ.out ▸ Me.swap_any h r.t r.v r.wc z HWZ.out HL.out)).mono ?_
    rintro e w2 ⟨rfl, hy⟩
    refine hK.out _ _ (⟨hy.cell 0 (ptr b.B) (fun _ _ => rfl), hy.shared 18 (ptr b.mb) (fun _ => rfl), hy.cell 1 (.int .i64 r.t) (fun _ _ => rfl), hy.cell 8 (.int .i64 r.v) (fun _ _ => rfl), hy.cell 36 (.int .u64 r.wc) (fun _ _ => rfl)⟩) (fun hH => ?_)
    clear hK K
    have H2 := Lib.hid hy
    clear hy H0
    try simp only [Act.put, List.setIfInBounds_toArray, List.set_cons_zero, List.set_cons_succ]
    refine wpAnyH_take (i := 26) (oi := ⟨some 28, _, _, _, _, _⟩) (v := ?v26) rfl (by kernel_rfl) (by kernel_rfl) (by kernel_rfl) (fun _ _ _ h => h) (Or.inl ⟨rfl, ?c26⟩) hH ?r26
    case c26 => (intro w' _; go_simp; (try with_reducible rfl))
    try simp only [Act.put, List.setIfInBounds_toArray, List.set_cons_zero, List.set_cons_succ]
    refine wpAnyH_done (by kernel_rfl) ?_ _
    clear hH
    go_wp2_with fail
    go_at_call 37
    refine (then_any H2.out .count _ rfl).mono ?_
    rintro e w4 ⟨rfl, hy⟩
    have H4 := Lib.hid hy
    clear hy
    go_wp2_with fail
    go_end0
    exact ⟨rfl, H4.out⟩
  · rw [show addA S r = countedA (swS S r r.v r.wc z) r by unfold addA; rw [hz, hzz]; rfl]
    have HZ : Hid (swapB S.ms r.v r.wc = true) := hz
    clear hz hzz
    clear H hr hF he
    go_enter Tryz.func142, Tryz.ntmps142
    go_wp2_with fail
    refine wp_region_held_drew (S := fun w' => w'.cell? ⟨b.g, 0, none⟩ = some (ptr b.B) ∧ w'.cell? ⟨b.B, 18, none⟩ = some (ptr b.mb) ∧ w'.cell? ⟨b.g, 1, none⟩ = some (.int .i64 r.t) ∧ w'.cell? ⟨b.g, 8, none⟩ = some (.int .i64 r.v) ∧ w'.cell? ⟨b.g, 36, none⟩ = some (.int .u64 r.wc)) (by kernel_rfl) (⟨H0.out.drew.cell 0 (ptr b.B) (fun _ _ => rfl), H0.out.drew.shared 18 (ptr b.mb) (fun _ => rfl), H0.out.drew.cell 1 (.int .i64 r.t) (fun _ _ => rfl), H0.out.drew.cell 8 (.int .i64 r.v) (fun _ _ => rfl), H0.out.drew.cell 36 (.int .u64 r.wc) (fun _ _ => rfl)⟩) (fun hH => ?_)
    refine wpAnyH_take (i := 0) (oi := ⟨some 2, _, _, _, _, _⟩) (v := ?v27) rfl (by kernel_rfl) (by kernel_rfl) (by kernel_rfl) (fun _ _ _ h => h) (Or.inl ⟨rfl, ?c27⟩) hH ?r27
    case c27 => (intro w' _; go_simp; (try with_reducible rfl))
    try simp only [Act.put, List.setIfInBounds_toArray, List.set_cons_zero, List.set_cons_succ]
    refine wpAnyH_take (i := 1) (oi := ⟨some 3, _, _, _, _, _⟩) (v := ?v28) rfl (by kernel_rfl) (by kernel_rfl) (by kernel_rfl) (fun _ _ _ h => h) (Or.inl ⟨rfl, ?c28⟩) hH ?r28
    case c28 => (intro w' _; go_simp; (try with_reducible rfl))
    try simp only [Act.put, List.setIfInBounds_toArray, List.set_cons_zero, List.set_cons_succ]
    refine wpAnyH_take (i := 2) (oi := ⟨some 4, _, _, _, _, _⟩) (v := ?v29) rfl (by kernel_rfl) (by kernel_rfl) (by kernel_rfl) (fun _ _ _ h => h) (Or.inl ⟨rfl, ?c29⟩) hH ?r29
    case c29 => (intro w' _; go_simp; (try with_reducible rfl))
    try simp only [Act.put, List.setIfInBounds_toArray, List.set_cons_zero, List.set_cons_succ]
    refine wpAnyH_take (i := 3) (oi := ⟨some 5, _, _, _, _, _⟩) (v := ?v30) rfl (by kernel_rfl) (by kernel_rfl) (by kernel_rfl) (fun _ _ _ h => h) (Or.inl ⟨rfl, ?c30⟩) hH ?r30
    case c30 => (intro w' hS; (try dsimp only at hS); go_simp; (try with_reducible rfl))
    try simp only [Act.put, List.setIfInBounds_toArray, List.set_cons_zero, List.set_cons_succ]
    refine wpAnyH_take (i := 4) (oi := ⟨some 6, _, _, _, _, _⟩) (v := ?v31) rfl (by kernel_rfl) (by kernel_rfl) (by kernel_rfl) (fun _ _ _ h => h) (Or.inl ⟨rfl, ?c31⟩) hH ?r31
    case c31 => (intro w' _; go_simp; (try with_reducible rfl))
    try simp only [Act.put, List.setIfInBounds_toArray, List.set_cons_zero, List.set_cons_succ]
    refine wpAnyH_take (i := 5) (oi := ⟨some 7, _, _, _, _, _⟩) (v := ?v32) rfl (by kernel_rfl) (by kernel_rfl) (by kernel_rfl) (fun _ _ _ h => h) (Or.inl ⟨rfl, ?c32⟩) hH ?r32
    case c32 => (intro w' _; go_simp; (try with_reducible rfl))
    try simp only [Act.put, List.setIfInBounds_toArray, List.set_cons_zero, List.set_cons_succ]
    refine wpAnyH_take (i := 6) (oi := ⟨some 8, _, _, _, _, _⟩) (v := ?v33) rfl (by kernel_rfl) (by kernel_rfl) (by kernel_rfl) (fun _ _ _ h => h) (Or.inl ⟨rfl, ?c33⟩) hH ?r33
    case c33 => (intro w' hS; (try dsimp only at hS); go_simp; (try with_reducible rfl))
    try simp only [Act.put, List.setIfInBounds_toArray, List.set_cons_zero, List.set_cons_succ]
    refine wpAnyH_take (i := 7) (oi := ⟨some 9, _, _, _, _, _⟩) (v := ?v34) rfl (by kernel_rfl) (by kernel_rfl) (by kernel_rfl) (fun _ _ _ h => h) (Or.inl ⟨rfl, ?c34⟩) hH ?r34
    case c34 => (intro w' _; go_simp; (try with_reducible rfl))
    try simp only [Act.put, List.setIfInBounds_toArray, List.set_cons_zero, List.set_cons_succ]
    refine wpAnyH_take (i := 8) (oi := ⟨some 10, _, _, _, _, _⟩) (v := ?v35) rfl (by kernel_rfl) (by kernel_rfl) (by kernel_rfl) (fun _ _ _ h => h) (Or.inl ⟨rfl, ?c35⟩) hH ?r35
    case c35 => (intro w' _; go_simp; (try with_reducible rfl))
    try simp only [Act.put, List.setIfInBounds_toArray, List.set_cons_zero, List.set_cons_succ]
    refine wpAnyH_take (i := 9) (oi := ⟨some 11, _, _, _, _, _⟩) (v := ?v36) rfl (by kernel_rfl) (by kernel_rfl) (by kernel_rfl) (fun _ _ _ h => h) (Or.inl ⟨rfl, ?c36⟩) hH ?r36
    case c36 => (intro w' _; go_simp; (try with_reducible rfl))
    try simp only [Act.put, List.setIfInBounds_toArray, List.set_cons_zero, List.set_cons_succ]
    refine wpAnyH_take (i := 10) (oi := ⟨some 12, _, _, _, _, _⟩) (v := ?v37) rfl (by kernel_rfl) (by kernel_rfl) (by kernel_rfl) (fun _ _ _ h => h) (Or.inl ⟨rfl, ?c37⟩) hH ?r37
    case c37 => (intro w' hS; (try dsimp only at hS); go_simp; (try with_reducible rfl))
    try simp only [Act.put, List.setIfInBounds_toArray, List.set_cons_zero, List.set_cons_succ]
    refine wpAnyH_take (i := 11) (oi := ⟨some 13, _, _, _, _, _⟩) (v := ?v38) rfl (by kernel_rfl) (by kernel_rfl) (by kernel_rfl) (fun _ _ _ h => h) (Or.inl ⟨rfl, ?c38⟩) hH ?r38
    case c38 => (intro w' _; go_simp; (try with_reducible rfl))
    try simp only [Act.put, List.setIfInBounds_toArray, List.set_cons_zero, List.set_cons_succ]
    refine wpAnyH_take (i := 12) (oi := ⟨some 14, _, _, _, _, _⟩) (v := ?v39) rfl (by kernel_rfl) (by kernel_rfl) (by kernel_rfl) (fun _ _ _ h => h) (Or.inl ⟨rfl, ?c39⟩) hH ?r39
    case c39 => (intro w' _; go_simp; (try with_reducible rfl))
    try simp only [Act.put, List.setIfInBounds_toArray, List.set_cons_zero, List.set_cons_succ]
    refine wpAnyH_take (i := 13) (oi := ⟨some 15, _, _, _, _, _⟩) (v := ?v40) rfl (by kernel_rfl) (by kernel_rfl) (by kernel_rfl) (fun _ _ _ h => h) (Or.inl ⟨rfl, ?c40⟩) hH ?r40
    case c40 => (intro w' _; go_simp; (try with_reducible rfl))
    try simp only [Act.put, List.setIfInBounds_toArray, List.set_cons_zero, List.set_cons_succ]
    refine wpAnyH_take (i := 14) (oi := ⟨some 16, _, _, _, _, _⟩) (v := ?v41) rfl (by kernel_rfl) (by kernel_rfl) (by kernel_rfl) (fun _ _ _ h => h) (Or.inl ⟨rfl, ?c41⟩) hH ?r41
    case c41 => (intro w' _; go_simp; (try with_reducible rfl))
    try simp only [Act.put, List.setIfInBounds_toArray, List.set_cons_zero, List.set_cons_succ]
    refine wpAnyH_take (i := 15) (oi := ⟨some 17, _, _, _, _, _⟩) (v := ?v42) rfl (by kernel_rfl) (by kernel_rfl) (by kernel_rfl) (fun _ _ _ h => h) (Or.inl ⟨rfl, ?c42⟩) hH ?r42
    case c42 => (intro w' hS; (try dsimp only at hS); go_simp; (try with_reducible rfl))
    try simp only [Act.put, List.setIfInBounds_toArray, List.set_cons_zero, List.set_cons_succ]
    refine wpAnyH_take (i := 16) (oi := ⟨some 18, _, _, _, _, _⟩) (v := ?v43) rfl (by kernel_rfl) (by kernel_rfl) (by kernel_rfl) (fun _ _ _ h => h) (Or.inl ⟨rfl, ?c43⟩) hH ?r43
    case c43 => (intro w' _; go_simp; (try with_reducible rfl))
    try simp only [Act.put, List.setIfInBounds_toArray, List.set_cons_zero, List.set_cons_succ]
    refine wpAnyH_take (i := 17) (oi := ⟨some 19, _, _, _, _, _⟩) (v := ?v44) rfl (by kernel_rfl) (by kernel_rfl) (by kernel_rfl) (fun _ _ _ h => h) (Or.inl ⟨rfl, ?c44⟩) hH ?r44
    case c44 => (intro w' _; go_simp; (try with_reducible rfl))
    try simp only [Act.put, List.setIfInBounds_toArray, List.set_cons_zero, List.set_cons_succ]
    refine wpAnyH_take (i := 18) (oi := ⟨some 20, _, _, _, _, _⟩) (v := ?v45) rfl (by kernel_rfl) (by kernel_rfl) (by kernel_rfl) (fun _ _ _ h => h) (Or.inl ⟨rfl, ?c45⟩) hH ?r45
    case c45 => (intro w' _; go_simp; (try with_reducible rfl))
    try simp only [Act.put, List.setIfInBounds_toArray, List.set_cons_zero, List.set_cons_succ]
    refine wpAnyH_take (i := 19) (oi := ⟨some 21, _, _, _, _, _⟩) (v := ?v46) rfl (by kernel_rfl) (by kernel_rfl) (by kernel_rfl) (fun _ _ _ h => h) (Or.inl ⟨rfl, ?c46⟩) hH ?r46
    case c46 => (intro w' hS; (try dsimp only at hS); go_simp; (try with_reducible rfl))
    try simp only [Act.put, List.setIfInBounds_toArray, List.set_cons_zero, List.set_cons_succ]
    refine wpAnyH_take (i := 20) (oi := ⟨some 22, _, _, _, _, _⟩) (v := ?v47) rfl (by kernel_rfl) (by kernel_rfl) (by kernel_rfl) (fun _ _ _ h => h) (Or.inl ⟨rfl, ?c47⟩) hH ?r47
    case c47 => (intro w' _; go_simp; (try with_reducible rfl))
    try simp only [Act.put, List.setIfInBounds_toArray, List.set_cons_zero, List.set_cons_succ]
    refine wpAnyH_take (i := 21) (oi := ⟨some 23, _, _, _, _, _⟩) (v := ?v48) rfl (by kernel_rfl) (by kernel_rfl) (by kernel_rfl) (fun _ _ _ h => h) (Or.inl ⟨rfl, ?c48⟩) hH ?r48
    case c48 => (intro w' _; go_simp; (try with_reducible rfl))
    try simp only [Act.put, List.setIfInBounds_toArray, List.set_cons_zero, List.set_cons_succ]
    refine wpAnyH_take (i := 22) (oi := ⟨some 24, _, _, _, _, _⟩) (v := ?v49) rfl (by kernel_rfl) (by kernel_rfl) (by kernel_rfl) (fun _ _ _ h => h) (Or.inl ⟨rfl, ?c49⟩) hH ?r49
    case c49 => (intro w' _; go_simp; (try with_reducible rfl))
    try simp only [Act.put, List.setIfInBounds_toArray, List.set_cons_zero, List.set_cons_succ]
    refine wpAnyH_take (i := 23) (oi := ⟨some 25, _, _, _, _, _⟩) (v := ?v50) rfl (by kernel_rfl) (by kernel_rfl) (by kernel_rfl) (fun _ _ _ h => h) (Or.inl ⟨rfl, ?c50⟩) hH ?r50
    case c50 => (intro w' hS; (try dsimp only at hS); go_simp; (try with_reducible rfl))
    try simp only [Act.put, List.setIfInBounds_toArray, List.set_cons_zero, List.set_cons_succ]
    refine wpAnyH_take (i := 24) (oi := ⟨some 26, _, _, _, _, _⟩) (v := ?v51) rfl (by kernel_rfl) (by kernel_rfl) (by kernel_rfl) (fun _ _ _ h => h) (Or.inl ⟨rfl, ?c51⟩) hH ?r51
    case c51 => (intro w' _; go_simp; (try rw [HM.out]); (try with_reducible rfl))
    try simp only [Act.put, List.setIfInBounds_toArray, List.set_cons_zero, List.set_cons_succ]
    refine wpAnyH_ready (rs := [25]) (by kernel_rfl) (by simp) (AllReadyH.cons rfl (fun K hK => ?_) (AllReadyH.nil))
    go_simp
    go_at_call 154
    refine (H0.out.drew.does (fun Om h => HZ.out ▸ Me.swap_any h r.t r.v r.wc z HWZ.out HL.out)).mono ?_
    rintro e w2 ⟨rfl, hy⟩
    refine hK.out _ _ (⟨hy.cell 0 (ptr b.B) (fun _ _ => rfl), hy.shared 18 (ptr b.mb) (fun _ => rfl), hy.cell 1 (.int .i64 r.t) (fun _ _ => rfl), hy.cell 8 (.int .i64 r.v) (fun _ _ => rfl), hy.cell 36 (.int .u64 r.wc) (fun _ _ => rfl)⟩) (fun hH => ?_)
    clear hK K
    have H2 := Lib.hid hy
    clear hy H0
    try simp only [Act.put, List.setIfInBounds_toArray, List.set_cons_zero, List.set_cons_succ]
    refine wpAnyH_take (i := 26) (oi := ⟨some 28, _, _, _, _, _⟩) (v := ?v52) rfl (by kernel_rfl) (by kernel_rfl) (by kernel_rfl) (fun _ _ _ h => h) (Or.inl ⟨rfl, ?c52⟩) hH ?r52
    case c52 => (intro w' _; go_simp; (try with_reducible rfl))
    try simp only [Act.put, List.setIfInBounds_toArray, List.set_cons_zero, List.set_cons_succ]
    refine wpAnyH_done (by kernel_rfl) ?_ _
    clear hH
    go_wp2_with fail
    go_at_call 141
    refine (counted_any H2.out ((HR.out.sw r.v r.wc z).mono (by omega))).mono ?_
    rintro e w4 ⟨rfl, hy⟩
    have H4 := Lib.hid hy
    clear hy
    go_wp2_with fail
    go_end0
    exact ⟨rfl, H4.out⟩
set_option maxHeartbeats 2000000 in
theorem tick_act (H : Y b S r W) (hr : Rm 9 S) (hF : Fit b.C S r) (he : Env b.w0) : Calls Tryz.prog 72 #[ptr b.g] W (Yd b U ((tickA S r).1) ((tickA S r).2)) := by
  have HR := Lib.hid hr
  have HF := Lib.hid hF
  have HE := Lib.hid he
  have H0 := Lib.hid H
  have HLT : Hid (cG (tickW r.wg r.z) = Ga.later (cG r.wg) r.z) := (wG (fit_tick hF.wg r.z)).2.1
  have HWN := Lib.hid (w_tick hF.wg r.z)
  have HTK : Hid (∀ W, Env W → Calls Tryz.prog 110 #[.int .u64 r.wg, .int .i64 r.z] W fun e w' => e = .returned (.int .u64 (tickW r.wg r.z)) ∧ Below W.heap.size W w') := fun W he => tickG hF.wg r.z hF.z.1 hF.z.2 W he
  have HUN : Hid (∀ W, Env W → Calls Tryz.prog 46 #[.int .u64 (tickW r.wg r.z)] W fun e w' => e = .returned (.agg #[.int .i64 (vG (tickW r.wg r.z)), .int .i64 (kG (tickW r.wg r.z)), .int .i64 (Ga.later (cG r.wg) r.z)]) ∧ Below W.heap.size W w') := fun W he => HLT.out ▸ unpackG HWN.out W he
  cases hz : swapB S.ms 0 r.wg
  · rw [show tickA S r = (swS S r 0 r.wg (tickW r.wg r.z), goto r .readClock) by unfold tickA; rw [hz]; rfl]
    have HZ : Hid (swapB S.ms 0 r.wg = false) := hz
    clear hz HLT
    generalize tickW r.wg r.z = now at *
    generalize Ga.later (cG r.wg) r.z = nc at *
    generalize vG now = nv at *
    generalize kG now = nk at *
    clear H hr hF he
    go_enter Tryz.func72, Tryz.ntmps72
    go_wp2_with fail
    refine wp_region_held_drew (S := fun w' => w'.cell? ⟨b.g, 35, none⟩ = some (.int .u64 r.wg) ∧ w'.cell? ⟨b.g, 10, none⟩ = some (.int .i64 r.z)) (by kernel_rfl) (⟨H0.out.drew.cell 35 (.int .u64 r.wg) (fun _ _ => rfl), H0.out.drew.cell 10 (.int .i64 r.z) (fun _ _ => rfl)⟩) (fun hH => ?_)
    refine wpAnyH_take (i := 0) (oi := ⟨some 3, _, _, _, _, _⟩) (v := ?v1) rfl (by kernel_rfl) (by kernel_rfl) (by kernel_rfl) (fun _ _ _ h => h) (Or.inl ⟨rfl, ?c1⟩) hH ?r1
    case c1 => (intro w' _; go_simp; (try with_reducible rfl))
    try simp only [Act.put, List.setIfInBounds_toArray, List.set_cons_zero, List.set_cons_succ]
    refine wpAnyH_take (i := 1) (oi := ⟨some 4, _, _, _, _, _⟩) (v := ?v2) rfl (by kernel_rfl) (by kernel_rfl) (by kernel_rfl) (fun _ _ _ h => h) (Or.inl ⟨rfl, ?c2⟩) hH ?r2
    case c2 => (intro w' _; go_simp; (try with_reducible rfl))
    try simp only [Act.put, List.setIfInBounds_toArray, List.set_cons_zero, List.set_cons_succ]
    refine wpAnyH_take (i := 2) (oi := ⟨some 5, _, _, _, _, _⟩) (v := ?v3) rfl (by kernel_rfl) (by kernel_rfl) (by kernel_rfl) (fun _ _ _ h => h) (Or.inl ⟨rfl, ?c3⟩) hH ?r3
    case c3 => (intro w' _; go_simp; (try with_reducible rfl))
    try simp only [Act.put, List.setIfInBounds_toArray, List.set_cons_zero, List.set_cons_succ]
    refine wpAnyH_take (i := 3) (oi := ⟨some 6, _, _, _, _, _⟩) (v := ?v4) rfl (by kernel_rfl) (by kernel_rfl) (by kernel_rfl) (fun _ _ _ h => h) (Or.inl ⟨rfl, ?c4⟩) hH ?r4
    case c4 => (intro w' hS; (try dsimp only at hS); go_simp; (try with_reducible rfl))
    try simp only [Act.put, List.setIfInBounds_toArray, List.set_cons_zero, List.set_cons_succ]
    refine wpAnyH_take (i := 4) (oi := ⟨some 7, _, _, _, _, _⟩) (v := ?v5) rfl (by kernel_rfl) (by kernel_rfl) (by kernel_rfl) (fun _ _ _ h => h) (Or.inl ⟨rfl, ?c5⟩) hH ?r5
    case c5 => (intro w' _; go_simp; (try with_reducible rfl))
    try simp only [Act.put, List.setIfInBounds_toArray, List.set_cons_zero, List.set_cons_succ]
    refine wpAnyH_take (i := 5) (oi := ⟨some 8, _, _, _, _, _⟩) (v := ?v6) rfl (by kernel_rfl) (by kernel_rfl) (by kernel_rfl) (fun _ _ _ h => h) (Or.inl ⟨rfl, ?c6⟩) hH ?r6
    case c6 => (intro w' _; go_simp; (try with_reducible rfl))
    try simp only [Act.put, List.setIfInBounds_toArray, List.set_cons_zero, List.set_cons_succ]
    refine wpAnyH_take (i := 6) (oi := ⟨some 9, _, _, _, _, _⟩) (v := ?v7) rfl (by kernel_rfl) (by kernel_rfl) (by kernel_rfl) (fun _ _ _ h => h) (Or.inl ⟨rfl, ?c7⟩) hH ?r7
    case c7 => (intro w' _; go_simp; (try with_reducible rfl))
    try simp only [Act.put, List.setIfInBounds_toArray, List.set_cons_zero, List.set_cons_succ]
    refine wpAnyH_take (i := 7) (oi := ⟨some 10, _, _, _, _, _⟩) (v := ?v8) rfl (by kernel_rfl) (by kernel_rfl) (by kernel_rfl) (fun _ _ _ h => h) (Or.inl ⟨rfl, ?c8⟩) hH ?r8
    case c8 => (intro w' hS; (try dsimp only at hS); go_simp; (try with_reducible rfl))
    try simp only [Act.put, List.setIfInBounds_toArray, List.set_cons_zero, List.set_cons_succ]
    refine wpAnyH_ready (rs := [8]) (by kernel_rfl) (by simp) (AllReadyH.cons rfl (fun K hK => ?_) (AllReadyH.nil))
    go_simp
    go_at_call 110
    refine (HTK.out _ (H0.out.drew.env HE.out)).mono ?_
    rintro e w1 ⟨rfl, hy⟩
    refine hK.out _ _ (⟨(H0.out.drew.next hy).cell 35 (.int .u64 r.wg) (fun _ _ => rfl), (H0.out.drew.next hy).cell 10 (.int .i64 r.z) (fun _ _ => rfl)⟩) (fun hH => ?_)
    clear hK K
    have H1 := Lib.hid (H0.out.drew.next hy)
    clear hy H0 HTK
    try simp only [Act.put, List.setIfInBounds_toArray, List.set_cons_zero, List.set_cons_succ]
    refine wpAnyH_take (i := 9) (oi := ⟨some 2, _, _, _, _, _⟩) (v := ?v9) rfl (by kernel_rfl) (by kernel_rfl) (by kernel_rfl) (fun _ _ _ h => h) (Or.inl ⟨rfl, ?c9⟩) hH ?r9
    case c9 => (intro w' _; go_simp; (try with_reducible rfl))
    try simp only [Act.put, List.setIfInBounds_toArray, List.set_cons_zero, List.set_cons_succ]
    refine wpAnyH_done (by kernel_rfl) ?_ _
    clear hH
    go_wp2_with fail
    have HSW := Lib.hid (swapGate_any H1.out (HR.out.mono (by omega)) _ HWN.out)
    rw [HZ.out] at HSW
    go_at_call 111
    refine HSW.out.mono ?_
    rintro e w2 ⟨rfl, hy⟩
    have H2 := Lib.hid hy
    clear hy HSW H1
    go_wp2_with fail
    go_at_call 37
    refine (then_any H2.out .readClock _ rfl).mono ?_
    rintro e w4 ⟨rfl, hy⟩
    have H4 := Lib.hid hy
    clear hy
    go_wp2_with fail
    go_end0
    exact ⟨rfl, H4.out⟩
  · rw [show tickA S r = endA (say (swS S r 0 r.wg (tickW r.wg r.z)) r 5 k0 0 r.z) { r with n := Ga.later (cG r.wg) r.z } by unfold tickA; rw [hz]; rfl]
    have HZ : Hid (swapB S.ms 0 r.wg = true) := hz
    clear hz HLT
    generalize tickW r.wg r.z = now at *
    generalize Ga.later (cG r.wg) r.z = nc at *
    generalize vG now = nv at *
    generalize kG now = nk at *
    clear H hr hF he
    go_enter Tryz.func72, Tryz.ntmps72
    go_wp2_with fail
    refine wp_region_held_drew (S := fun w' => w'.cell? ⟨b.g, 35, none⟩ = some (.int .u64 r.wg) ∧ w'.cell? ⟨b.g, 10, none⟩ = some (.int .i64 r.z)) (by kernel_rfl) (⟨H0.out.drew.cell 35 (.int .u64 r.wg) (fun _ _ => rfl), H0.out.drew.cell 10 (.int .i64 r.z) (fun _ _ => rfl)⟩) (fun hH => ?_)
    refine wpAnyH_take (i := 0) (oi := ⟨some 3, _, _, _, _, _⟩) (v := ?v10) rfl (by kernel_rfl) (by kernel_rfl) (by kernel_rfl) (fun _ _ _ h => h) (Or.inl ⟨rfl, ?c10⟩) hH ?r10
    case c10 => (intro w' _; go_simp; (try with_reducible rfl))
    try simp only [Act.put, List.setIfInBounds_toArray, List.set_cons_zero, List.set_cons_succ]
    refine wpAnyH_take (i := 1) (oi := ⟨some 4, _, _, _, _, _⟩) (v := ?v11) rfl (by kernel_rfl) (by kernel_rfl) (by kernel_rfl) (fun _ _ _ h => h) (Or.inl ⟨rfl, ?c11⟩) hH ?r11
    case c11 => (intro w' _; go_simp; (try with_reducible rfl))
    try simp only [Act.put, List.setIfInBounds_toArray, List.set_cons_zero, List.set_cons_succ]
    refine wpAnyH_take (i := 2) (oi := ⟨some 5, _, _, _, _, _⟩) (v := ?v12) rfl (by kernel_rfl) (by kernel_rfl) (by kernel_rfl) (fun _ _ _ h => h) (Or.inl ⟨rfl, ?c12⟩) hH ?r12
    case c12 => (intro w' _; go_simp; (try with_reducible rfl))
    try simp only [Act.put, List.setIfInBounds_toArray, List.set_cons_zero, List.set_cons_succ]
    refine wpAnyH_take (i := 3) (oi := ⟨some 6, _, _, _, _, _⟩) (v := ?v13) rfl (by kernel_rfl) (by kernel_rfl) (by kernel_rfl) (fun _ _ _ h => h) (Or.inl ⟨rfl, ?c13⟩) hH ?r13
    case c13 => (intro w' hS; (try dsimp only at hS); go_simp; (try with_reducible rfl))
    try simp only [Act.put, List.setIfInBounds_toArray, List.set_cons_zero, List.set_cons_succ]
    refine wpAnyH_take (i := 4) (oi := ⟨some 7, _, _, _, _, _⟩) (v := ?v14) rfl (by kernel_rfl) (by kernel_rfl) (by kernel_rfl) (fun _ _ _ h => h) (Or.inl ⟨rfl, ?c14⟩) hH ?r14
    case c14 => (intro w' _; go_simp; (try with_reducible rfl))
    try simp only [Act.put, List.setIfInBounds_toArray, List.set_cons_zero, List.set_cons_succ]
    refine wpAnyH_take (i := 5) (oi := ⟨some 8, _, _, _, _, _⟩) (v := ?v15) rfl (by kernel_rfl) (by kernel_rfl) (by kernel_rfl) (fun _ _ _ h => h) (Or.inl ⟨rfl, ?c15⟩) hH ?r15
    case c15 => (intro w' _; go_simp; (try with_reducible rfl))
    try simp only [Act.put, List.setIfInBounds_toArray, List.set_cons_zero, List.set_cons_succ]
    refine wpAnyH_take (i := 6) (oi := ⟨some 9, _, _, _, _, _⟩) (v := ?v16) rfl (by kernel_rfl) (by kernel_rfl) (by kernel_rfl) (fun _ _ _ h => h) (Or.inl ⟨rfl, ?c16⟩) hH ?r16
    case c16 => (intro w' _; go_simp; (try with_reducible rfl))
    try simp only [Act.put, List.setIfInBounds_toArray, List.set_cons_zero, List.set_cons_succ]
    refine wpAnyH_take (i := 7) (oi := ⟨some 10, _, _, _, _, _⟩) (v := ?v17) rfl (by kernel_rfl) (by kernel_rfl) (by kernel_rfl) (fun _ _ _ h => h) (Or.inl ⟨rfl, ?c17⟩) hH ?r17
    case c17 => (intro w' hS; (try dsimp only at hS); go_simp; (try with_reducible rfl))
    try simp only [Act.put, List.setIfInBounds_toArray, List.set_cons_zero, List.set_cons_succ]
    refine wpAnyH_ready (rs := [8]) (by kernel_rfl) (by simp) (AllReadyH.cons rfl (fun K hK => ?_) (AllReadyH.nil))
    go_simp
    go_at_call 110
    refine (HTK.out _ (H0.out.drew.env HE.out)).mono ?_
    rintro e w1 ⟨rfl, hy⟩
    refine hK.out _ _ (⟨(H0.out.drew.next hy).cell 35 (.int .u64 r.wg) (fun _ _ => rfl), (H0.out.drew.next hy).cell 10 (.int .i64 r.z) (fun _ _ => rfl)⟩) (fun hH => ?_)
    clear hK K
    have H1 := Lib.hid (H0.out.drew.next hy)
    clear hy H0 HTK
    try simp only [Act.put, List.setIfInBounds_toArray, List.set_cons_zero, List.set_cons_succ]
    refine wpAnyH_take (i := 9) (oi := ⟨some 2, _, _, _, _, _⟩) (v := ?v18) rfl (by kernel_rfl) (by kernel_rfl) (by kernel_rfl) (fun _ _ _ h => h) (Or.inl ⟨rfl, ?c18⟩) hH ?r18
    case c18 => (intro w' _; go_simp; (try with_reducible rfl))
    try simp only [Act.put, List.setIfInBounds_toArray, List.set_cons_zero, List.set_cons_succ]
    refine wpAnyH_done (by kernel_rfl) ?_ _
    clear hH
    go_wp2_with fail
    have HSW := Lib.hid (swapGate_any H1.out (HR.out.mono (by omega)) _ HWN.out)
    rw [HZ.out] at HSW
    go_at_call 111
    refine HSW.out.mono ?_
    rintro e w2 ⟨rfl, hy⟩
    have H2 := Lib.hid hy
    clear hy HSW H1
    have q0 : w2.cell? ⟨b.g, 10, none⟩ = some (.int .i64 r.z) := H2.out.cell 10 _ (fun _ _ => rfl)
    go_wp2_with fail
    go_at_call 44
    refine (record0 H2.out ((HR.out.sw 0 r.wg now).mono (by omega)) 5 0 r.z).mono ?_
    rintro e w3 ⟨rfl, hy⟩
    have H3 := Lib.hid hy
    clear hy q0 H2
    go_wp2_with fail
    go_at_call 46
    refine (HUN.out _ (H3.out.env HE.out)).mono ?_
    rintro e w4 ⟨rfl, hy⟩
    have H4 := Lib.hid (H3.out.next hy)
    have HS := Lib.hid (H4.out.set (r' := { r with n := nc }) 9 (.int .i64 nc) (fun _ _ => rfl) rfl rfl)
    have q0 := H4.out.frozen 9
    have q1 : w4.cell? ⟨b.g, 9, none⟩ = some (.int .i64 r.n) := H4.out.cell 9 _ (fun _ _ => rfl)
    have q2 := gate_c nv nk nc
    clear hy H3 H4
    go_wp2_with fail
    go_at_call 80
    refine (end_any HS.out (((HR.out.sw 0 r.wg now).say ..).mono (by omega))).mono ?_
    rintro e w5 ⟨rfl, hy⟩
    have H5 := Lib.hid hy
    clear hy q0 q1 q2 HS
    go_wp2_with fail
    go_end0
    exact ⟨rfl, H5.out⟩
theorem rulesMutex_any (H : Y b S r W) : Calls Tryz.prog 74 #[ptr b.B] W (Yd b (.int .i64 (b.C.n : Int)) S r) := by
  have H0 := Lib.hid H
  have x0 := H.shared 0 (.int .i64 (b.C.n : Int)) (fun _ => rfl)
  clear H
  go_enter Tryz.func74, Tryz.ntmps74
  go_wp2_with fail
  go_ret
  exact ⟨rfl, H0.out⟩
theorem rulesPlace_any (H : Y b S r W) (hn : b.C.n ≤ 4096) (v : Int) (hv : 0 ≤ v ∧ v ≤ 4096) : Calls Tryz.prog 166 #[ptr b.B, .int .i64 v] W (Yd b (.int .i64 ((b.C.n : Int) + v)) S r) := by
  have H0 := Lib.hid H
  have x0 := H.shared 0 (.int .i64 (b.C.n : Int)) (fun _ => rfl)
  clear H
  go_enter Tryz.func166, Tryz.ntmps166
  go_wp2_with fail
  go_ret
  exact ⟨rfl, H0.out⟩
theorem disclaim_act (H : Y b S r W) (hr : Rm 9 S) (hF : Fit b.C S r) (he : Env b.w0) : Calls Tryz.prog 164 #[ptr b.g] W (Yd b U ((disclaimA b.C S r).1) ((disclaimA b.C S r).2)) := by
  have HR := Lib.hid hr
  have HF := Lib.hid hF
  have HE := Lib.hid he
  have H0 := Lib.hid H
  have y0_0 := H0.out.cell 0 (ptr b.B) (fun _ _ => rfl)
  clear H hr hF he
  go_enter Tryz.func164, Tryz.ntmps164
  go_wp2_with fail
  go_at_call 74
  refine (rulesMutex_any H0.out).mono ?_
  rintro e w1 ⟨rfl, hy⟩
  have H1 := Lib.hid hy
  clear hy y0_0
  go_wp2_with fail
  go_at_call 151
  refine (free_any H1.out (HR.out.mono (by omega)) (b.C.n : Int)).mono ?_
  rintro e w2 ⟨rfl, hy⟩
  have H2 := Lib.hid hy
  clear hy 
  go_wp2_with fail
  go_at_call 80
  refine (end_any H2.out ((HR.out.free (b.C.n : Int)).mono (by omega))).mono ?_
  rintro e w3 ⟨rfl, hy⟩
  have H3 := Lib.hid hy
  clear hy 
  go_wp2_with fail
  go_end0
  exact ⟨rfl, H3.out⟩
set_option maxHeartbeats 2000000 in
theorem stat_act (H : Y b S r W) (hr : Rm 9 S) (hF : Fit b.C S r) (he : Env b.w0) : Calls Tryz.prog 79 #[ptr b.g] W (Yd b U ((statA S r).1) ((statA S r).2)) := by
  have HR := Lib.hid hr
  have HF := Lib.hid hF
  have HE := Lib.hid he
  have H0 := Lib.hid H
  have HL : Hid (S.ms.ls.length ≤ 1000000000000) := (hr.mono (Nat.zero_le _)).l
  obtain ⟨z, hzz⟩ : ∃ z, IntKind.i64.wrap (lookV S.ms r.z) = z := ⟨_, rfl⟩
  rw [show statA S r = endA (say (ldS S r r.z) r 7 k0 r.z z) { r with n := z } by unfold statA; rw [hzz]]
  have HM : Hid (IntKind.i64.wrap (lookV S.ms r.z) = z) := hzz
  clear hzz
  clear H hr hF he
  go_enter Tryz.func79, Tryz.ntmps79
  go_wp2_with fail
  refine wp_region_held_drew (S := fun w' => w'.cell? ⟨b.g, 0, none⟩ = some (ptr b.B) ∧ w'.cell? ⟨b.B, 18, none⟩ = some (ptr b.mb) ∧ w'.cell? ⟨b.g, 1, none⟩ = some (.int .i64 r.t) ∧ w'.cell? ⟨b.g, 10, none⟩ = some (.int .i64 r.z)) (by kernel_rfl) (⟨H0.out.drew.cell 0 (ptr b.B) (fun _ _ => rfl), H0.out.drew.shared 18 (ptr b.mb) (fun _ => rfl), H0.out.drew.cell 1 (.int .i64 r.t) (fun _ _ => rfl), H0.out.drew.cell 10 (.int .i64 r.z) (fun _ _ => rfl)⟩) (fun hH => ?_)
  refine wpAnyH_take (i := 0) (oi := ⟨some 2, _, _, _, _, _⟩) (v := ?v1) rfl (by kernel_rfl) (by kernel_rfl) (by kernel_rfl) (fun _ _ _ h => h) (Or.inl ⟨rfl, ?c1⟩) hH ?r1
  case c1 => (intro w' _; go_simp; (try with_reducible rfl))
  try simp only [Act.put, List.setIfInBounds_toArray, List.set_cons_zero, List.set_cons_succ]
  refine wpAnyH_take (i := 1) (oi := ⟨some 3, _, _, _, _, _⟩) (v := ?v2) rfl (by kernel_rfl) (by kernel_rfl) (by kernel_rfl) (fun _ _ _ h => h) (Or.inl ⟨rfl, ?c2⟩) hH ?r2
  case c2 => (intro w' _; go_simp; (try with_reducible rfl))
  try simp only [Act.put, List.setIfInBounds_toArray, List.set_cons_zero, List.set_cons_succ]
  refine wpAnyH_take (i := 2) (oi := ⟨some 4, _, _, _, _, _⟩) (v := ?v3) rfl (by kernel_rfl) (by kernel_rfl) (by kernel_rfl) (fun _ _ _ h => h) (Or.inl ⟨rfl, ?c3⟩) hH ?r3
  case c3 => (intro w' _; go_simp; (try with_reducible rfl))
  try simp only [Act.put, List.setIfInBounds_toArray, List.set_cons_zero, List.set_cons_succ]
  refine wpAnyH_take (i := 3) (oi := ⟨some 5, _, _, _, _, _⟩) (v := ?v4) rfl (by kernel_rfl) (by kernel_rfl) (by kernel_rfl) (fun _ _ _ h => h) (Or.inl ⟨rfl, ?c4⟩) hH ?r4
  case c4 => (intro w' _; go_simp; (try with_reducible rfl))
  try simp only [Act.put, List.setIfInBounds_toArray, List.set_cons_zero, List.set_cons_succ]
  refine wpAnyH_take (i := 4) (oi := ⟨some 6, _, _, _, _, _⟩) (v := ?v5) rfl (by kernel_rfl) (by kernel_rfl) (by kernel_rfl) (fun _ _ _ h => h) (Or.inl ⟨rfl, ?c5⟩) hH ?r5
  case c5 => (intro w' hS; (try dsimp only at hS); go_simp; (try with_reducible rfl))
  try simp only [Act.put, List.setIfInBounds_toArray, List.set_cons_zero, List.set_cons_succ]
  refine wpAnyH_take (i := 5) (oi := ⟨some 7, _, _, _, _, _⟩) (v := ?v6) rfl (by kernel_rfl) (by kernel_rfl) (by kernel_rfl) (fun _ _ _ h => h) (Or.inl ⟨rfl, ?c6⟩) hH ?r6
  case c6 => (intro w' _; go_simp; (try with_reducible rfl))
  try simp only [Act.put, List.setIfInBounds_toArray, List.set_cons_zero, List.set_cons_succ]
  refine wpAnyH_take (i := 6) (oi := ⟨some 8, _, _, _, _, _⟩) (v := ?v7) rfl (by kernel_rfl) (by kernel_rfl) (by kernel_rfl) (fun _ _ _ h => h) (Or.inl ⟨rfl, ?c7⟩) hH ?r7
  case c7 => (intro w' _; go_simp; (try with_reducible rfl))
  try simp only [Act.put, List.setIfInBounds_toArray, List.set_cons_zero, List.set_cons_succ]
  refine wpAnyH_take (i := 7) (oi := ⟨some 9, _, _, _, _, _⟩) (v := ?v8) rfl (by kernel_rfl) (by kernel_rfl) (by kernel_rfl) (fun _ _ _ h => h) (Or.inl ⟨rfl, ?c8⟩) hH ?r8
  case c8 => (intro w' hS; (try dsimp only at hS); go_simp; (try with_reducible rfl))
  try simp only [Act.put, List.setIfInBounds_toArray, List.set_cons_zero, List.set_cons_succ]
  refine wpAnyH_take (i := 8) (oi := ⟨some 10, _, _, _, _, _⟩) (v := ?v9) rfl (by kernel_rfl) (by kernel_rfl) (by kernel_rfl) (fun _ _ _ h => h) (Or.inl ⟨rfl, ?c9⟩) hH ?r9
  case c9 => (intro w' _; go_simp; (try with_reducible rfl))
  try simp only [Act.put, List.setIfInBounds_toArray, List.set_cons_zero, List.set_cons_succ]
  refine wpAnyH_take (i := 9) (oi := ⟨some 11, _, _, _, _, _⟩) (v := ?v10) rfl (by kernel_rfl) (by kernel_rfl) (by kernel_rfl) (fun _ _ _ h => h) (Or.inl ⟨rfl, ?c10⟩) hH ?r10
  case c10 => (intro w' _; go_simp; (try with_reducible rfl))
  try simp only [Act.put, List.setIfInBounds_toArray, List.set_cons_zero, List.set_cons_succ]
  refine wpAnyH_take (i := 10) (oi := ⟨some 12, _, _, _, _, _⟩) (v := ?v11) rfl (by kernel_rfl) (by kernel_rfl) (by kernel_rfl) (fun _ _ _ h => h) (Or.inl ⟨rfl, ?c11⟩) hH ?r11
  case c11 => (intro w' _; go_simp; (try with_reducible rfl))
  try simp only [Act.put, List.setIfInBounds_toArray, List.set_cons_zero, List.set_cons_succ]
  refine wpAnyH_take (i := 11) (oi := ⟨some 13, _, _, _, _, _⟩) (v := ?v12) rfl (by kernel_rfl) (by kernel_rfl) (by kernel_rfl) (fun _ _ _ h => h) (Or.inl ⟨rfl, ?c12⟩) hH ?r12
  case c12 => (intro w' hS; (try dsimp only at hS); go_simp; (try with_reducible rfl))
  try simp only [Act.put, List.setIfInBounds_toArray, List.set_cons_zero, List.set_cons_succ]
  refine wpAnyH_take (i := 12) (oi := ⟨some 14, _, _, _, _, _⟩) (v := ?v13) rfl (by kernel_rfl) (by kernel_rfl) (by kernel_rfl) (fun _ _ _ h => h) (Or.inl ⟨rfl, ?c13⟩) hH ?r13
  case c13 => (intro w' _; go_simp; (try with_reducible rfl))
  try simp only [Act.put, List.setIfInBounds_toArray, List.set_cons_zero, List.set_cons_succ]
  refine wpAnyH_take (i := 13) (oi := ⟨some 15, _, _, _, _, _⟩) (v := ?v14) rfl (by kernel_rfl) (by kernel_rfl) (by kernel_rfl) (fun _ _ _ h => h) (Or.inl ⟨rfl, ?c14⟩) hH ?r14
  case c14 => (intro w' _; go_simp; (try with_reducible rfl))
  try simp only [Act.put, List.setIfInBounds_toArray, List.set_cons_zero, List.set_cons_succ]
  refine wpAnyH_take (i := 14) (oi := ⟨some 16, _, _, _, _, _⟩) (v := ?v15) rfl (by kernel_rfl) (by kernel_rfl) (by kernel_rfl) (fun _ _ _ h => h) (Or.inl ⟨rfl, ?c15⟩) hH ?r15
  case c15 => (intro w' _; go_simp; (try with_reducible rfl))
  try simp only [Act.put, List.setIfInBounds_toArray, List.set_cons_zero, List.set_cons_succ]
  refine wpAnyH_take (i := 15) (oi := ⟨some 17, _, _, _, _, _⟩) (v := ?v16) rfl (by kernel_rfl) (by kernel_rfl) (by kernel_rfl) (fun _ _ _ h => h) (Or.inl ⟨rfl, ?c16⟩) hH ?r16
  case c16 => (intro w' hS; (try dsimp only at hS); go_simp; (try with_reducible rfl))
  try simp only [Act.put, List.setIfInBounds_toArray, List.set_cons_zero, List.set_cons_succ]
  refine wpAnyH_ready (rs := [16]) (by kernel_rfl) (by simp) (AllReadyH.cons rfl (fun K hK => ?_) (AllReadyH.nil))
  go_simp
  go_at_call 109
  refine (H0.out.drew.does (fun Om h => Me.load_any h r.t r.z HL.out)).mono ?_
  rintro e w2 ⟨rfl, hy⟩
  refine hK.out _ _ (⟨hy.cell 0 (ptr b.B) (fun _ _ => rfl), hy.shared 18 (ptr b.mb) (fun _ => rfl), hy.cell 1 (.int .i64 r.t) (fun _ _ => rfl), hy.cell 10 (.int .i64 r.z) (fun _ _ => rfl)⟩) (fun hH => ?_)
  clear hK K
  have H2 := Lib.hid hy
  have H3 := Lib.hid (hy.set (r' := { r with n := z }) 9 (.int .i64 z) (fun _ _ => rfl) rfl rfl)
  clear hy H0
  try simp only [Act.put, List.setIfInBounds_toArray, List.set_cons_zero, List.set_cons_succ]
  refine wpAnyH_take (i := 17) (oi := ⟨some 19, _, _, _, _, _⟩) (v := ?v17) rfl (by kernel_rfl) (by kernel_rfl) (by kernel_rfl) (fun _ _ _ h => h) (Or.inl ⟨rfl, ?c17⟩) hH ?r17
  case c17 => (intro w' _; go_simp; (try rw [HM.out]); (try with_reducible rfl))
  try simp only [Act.put, List.setIfInBounds_toArray, List.set_cons_zero, List.set_cons_succ]
  refine wpAnyH_take (i := 18) (oi := ⟨some 20, _, _, _, _, _⟩) (v := ?v18) rfl (by kernel_rfl) (by kernel_rfl) (by kernel_rfl) (fun _ _ _ h => h) (Or.inl ⟨rfl, ?c18⟩) hH ?r18
  case c18 => (intro w' _; go_simp; (try with_reducible rfl))
  try simp only [Act.put, List.setIfInBounds_toArray, List.set_cons_zero, List.set_cons_succ]
  refine wpAnyH_take (i := 19) (oi := ⟨some 21, _, _, _, _, _⟩) (v := ?v19) rfl (by kernel_rfl) (by kernel_rfl) (by kernel_rfl) (fun _ _ _ h => h) (Or.inl ⟨rfl, ?c19⟩) hH ?r19
  case c19 => (intro w' _; go_simp; (try with_reducible rfl))
  try simp only [Act.put, List.setIfInBounds_toArray, List.set_cons_zero, List.set_cons_succ]
  refine wpAnyH_take (i := 20) (oi := ⟨some 22, _, _, _, _, _⟩) (v := ?v20) rfl (by kernel_rfl) (by kernel_rfl) (by kernel_rfl) (fun _ _ _ h => h) (Or.inl ⟨rfl, ?c20⟩) hH ?r20
  case c20 => (intro w' _; go_simp; (try with_reducible rfl))
  try simp only [Act.put, List.setIfInBounds_toArray, List.set_cons_zero, List.set_cons_succ]
  refine wpAnyH_ready (rs := [21]) (by kernel_rfl) (by simp) (AllReadyH.cons rfl (fun K hK => ?_) (AllReadyH.nil))
  have f0 := H2.out.frozen 9
  have c0 := H2.out.cell 9 _ (fun _ _ => rfl)
  go_simp
  clear c0 f0
  refine hK.out _ _ (⟨H3.out.cell 0 (ptr b.B) (fun _ _ => rfl), H3.out.shared 18 (ptr b.mb) (fun _ => rfl), H3.out.cell 1 (.int .i64 r.t) (fun _ _ => rfl), H3.out.cell 10 (.int .i64 r.z) (fun _ _ => rfl)⟩) (fun hH => ?_)
  clear hK K
  obtain ⟨w3, hw3⟩ : ∃ VV, w2.setCell ⟨b.g, 9, none⟩ (.int .i64 z) = VV := ⟨_, rfl⟩
  rw [hw3] at H3 hH ⊢
  clear hw3 H2
  try simp only [Act.put, List.setIfInBounds_toArray, List.set_cons_zero, List.set_cons_succ]
  refine wpAnyH_done (by kernel_rfl) ?_ _
  clear hH
  go_wp2_with fail
  refine wp_region_held_drew (S := fun w' => w'.cell? ⟨b.g, 10, none⟩ = some (.int .i64 r.z) ∧ w'.cell? ⟨b.g, 9, none⟩ = some (.int .i64 z)) (by kernel_rfl) (⟨H3.out.drew.cell 10 _ (fun _ _ => rfl), H3.out.drew.cell 9 _ (fun _ _ => rfl)⟩) (fun hH => ?_)
  refine wpAnyH_take (i := 0) (oi := ⟨some 23, _, _, _, _, _⟩) (v := ?v21) rfl (by kernel_rfl) (by kernel_rfl) (by kernel_rfl) (fun _ _ _ h => h) (Or.inl ⟨rfl, ?c21⟩) hH ?r21
  case c21 => (intro w' _; go_simp; (try with_reducible rfl))
  try simp only [Act.put, List.setIfInBounds_toArray, List.set_cons_zero, List.set_cons_succ]
  refine wpAnyH_take (i := 1) (oi := ⟨some 24, _, _, _, _, _⟩) (v := ?v22) rfl (by kernel_rfl) (by kernel_rfl) (by kernel_rfl) (fun _ _ _ h => h) (Or.inl ⟨rfl, ?c22⟩) hH ?r22
  case c22 => (intro w' _; go_simp; (try with_reducible rfl))
  try simp only [Act.put, List.setIfInBounds_toArray, List.set_cons_zero, List.set_cons_succ]
  refine wpAnyH_take (i := 2) (oi := ⟨some 25, _, _, _, _, _⟩) (v := ?v23) rfl (by kernel_rfl) (by kernel_rfl) (by kernel_rfl) (fun _ _ _ h => h) (Or.inl ⟨rfl, ?c23⟩) hH ?r23
  case c23 => (intro w' _; go_simp; (try with_reducible rfl))
  try simp only [Act.put, List.setIfInBounds_toArray, List.set_cons_zero, List.set_cons_succ]
  refine wpAnyH_take (i := 3) (oi := ⟨some 26, _, _, _, _, _⟩) (v := ?v24) rfl (by kernel_rfl) (by kernel_rfl) (by kernel_rfl) (fun _ _ _ h => h) (Or.inl ⟨rfl, ?c24⟩) hH ?r24
  case c24 => (intro w' _; go_simp; (try with_reducible rfl))
  try simp only [Act.put, List.setIfInBounds_toArray, List.set_cons_zero, List.set_cons_succ]
  refine wpAnyH_take (i := 4) (oi := ⟨some 27, _, _, _, _, _⟩) (v := ?v25) rfl (by kernel_rfl) (by kernel_rfl) (by kernel_rfl) (fun _ _ _ h => h) (Or.inl ⟨rfl, ?c25⟩) hH ?r25
  case c25 => (intro w' hS; (try dsimp only at hS); go_simp; (try with_reducible rfl))
  try simp only [Act.put, List.setIfInBounds_toArray, List.set_cons_zero, List.set_cons_succ]
  refine wpAnyH_take (i := 5) (oi := ⟨some 28, _, _, _, _, _⟩) (v := ?v26) rfl (by kernel_rfl) (by kernel_rfl) (by kernel_rfl) (fun _ _ _ h => h) (Or.inl ⟨rfl, ?c26⟩) hH ?r26
  case c26 => (intro w' _; go_simp; (try with_reducible rfl))
  try simp only [Act.put, List.setIfInBounds_toArray, List.set_cons_zero, List.set_cons_succ]
  refine wpAnyH_take (i := 6) (oi := ⟨some 29, _, _, _, _, _⟩) (v := ?v27) rfl (by kernel_rfl) (by kernel_rfl) (by kernel_rfl) (fun _ _ _ h => h) (Or.inl ⟨rfl, ?c27⟩) hH ?r27
  case c27 => (intro w' _; go_simp; (try with_reducible rfl))
  try simp only [Act.put, List.setIfInBounds_toArray, List.set_cons_zero, List.set_cons_succ]
  refine wpAnyH_take (i := 7) (oi := ⟨some 30, _, _, _, _, _⟩) (v := ?v28) rfl (by kernel_rfl) (by kernel_rfl) (by kernel_rfl) (fun _ _ _ h => h) (Or.inl ⟨rfl, ?c28⟩) hH ?r28
  case c28 => (intro w' _; go_simp; (try with_reducible rfl))
  try simp only [Act.put, List.setIfInBounds_toArray, List.set_cons_zero, List.set_cons_succ]
  refine wpAnyH_take (i := 8) (oi := ⟨some 31, _, _, _, _, _⟩) (v := ?v29) rfl (by kernel_rfl) (by kernel_rfl) (by kernel_rfl) (fun _ _ _ h => h) (Or.inl ⟨rfl, ?c29⟩) hH ?r29
  case c29 => (intro w' _; go_simp; (try with_reducible rfl))
  try simp only [Act.put, List.setIfInBounds_toArray, List.set_cons_zero, List.set_cons_succ]
  refine wpAnyH_take (i := 9) (oi := ⟨some 32, _, _, _, _, _⟩) (v := ?v30) rfl (by kernel_rfl) (by kernel_rfl) (by kernel_rfl) (fun _ _ _ h => h) (Or.inl ⟨rfl, ?c30⟩) hH ?r30
  case c30 => (intro w' hS; (try dsimp only at hS); go_simp; (try with_reducible rfl))
  try simp only [Act.put, List.setIfInBounds_toArray, List.set_cons_zero, List.set_cons_succ]
  refine wpAnyH_take (i := 10) (oi := ⟨some 33, _, _, _, _, _⟩) (v := ?v31) rfl (by kernel_rfl) (by kernel_rfl) (by kernel_rfl) (fun _ _ _ h => h) (Or.inl ⟨rfl, ?c31⟩) hH ?r31
  case c31 => (intro w' _; go_simp; (try with_reducible rfl))
  try simp only [Act.put, List.setIfInBounds_toArray, List.set_cons_zero, List.set_cons_succ]
  refine wpAnyH_ready (rs := [11]) (by kernel_rfl) (by simp) (AllReadyH.cons rfl (fun K hK => ?_) (AllReadyH.nil))
  go_simp
  go_at_call 44
  refine (record0 H3.out.drew ((HR.out.ld r.z).mono (by omega)) 7 r.z z).mono ?_
  rintro e w4 ⟨rfl, hy⟩
  refine hK.out _ _ (⟨hy.cell 10 _ (fun _ _ => rfl), hy.cell 9 _ (fun _ _ => rfl)⟩) (fun hH => ?_)
  clear hK K
  have H4 := Lib.hid hy
  clear hy H3
  try simp only [Act.put, List.setIfInBounds_toArray, List.set_cons_zero, List.set_cons_succ]
  refine wpAnyH_done (by kernel_rfl) ?_ _
  clear hH
  go_wp2_with fail
  go_at_call 80
  refine (end_any H4.out (((HR.out.ld r.z).say ..).mono (by omega))).mono ?_
  rintro e w5 ⟨rfl, hy⟩
  have H5 := Lib.hid hy
  clear hy H4
  go_wp2_with fail
  go_end0
  exact ⟨rfl, H5.out⟩
theorem visit_act (H : Y b S r W) (hr : Rm 9 S) (hF : Fit b.C S r) (he : Env b.w0) : Calls Tryz.prog 76 #[ptr b.g] W (Yd b U ((visitA b.C S r).1) ((visitA b.C S r).2)) := by
  have HR := Lib.hid hr
  have HF := Lib.hid hF
  have HE := Lib.hid he
  have H0 := Lib.hid H
  have HQ : Hid ((fndR b.C S r).q = r.q) := by show _ = _; rw [fndR_is]
  by_cases hz : r.q = 4
  · rw [show (visitA b.C S r).1 = ldS (toS b.C S r 5) (fndR b.C S r) (fndR b.C S r).x from rfl, show (visitA b.C S r).2 = goto (ldF (toS b.C S r 5) (fndR b.C S r)) .kill by unfold visitA; rw [if_pos hz]]
    have HZ : Hid (((fndR b.C S r).q == 4) = true) := by show _ = _; rw [HQ.out]; simpa using hz
    clear hz
    clear H hr hF he
    go_enter Tryz.func76, Tryz.ntmps76
    go_wp2_with fail
    go_at_call 107
    refine (findFlow_any H0.out (HR.out.mono (by omega)) HF.out.k).mono ?_
    rintro e w1 ⟨rfl, hy⟩
    have H1 := Lib.hid hy
    clear hy 
    go_wp2_with fail
    go_at_call 104
    refine (loadFlow_any H1.out ((HR.out.to (C := b.C) 5).mono (by omega))).mono ?_
    rintro e w2 ⟨rfl, hy⟩
    have H2 := Lib.hid hy
    clear hy 
    have q0 : w2.cell? ⟨b.g, 20, none⟩ = some (.bool ((fndR b.C S r).q == 4)) := H2.out.cell 20 _ (fun _ _ => rfl)
    rw [HZ.out] at q0
    go_wp2_with fail
    go_at_call 37
    refine (then_any H2.out .kill _ rfl).mono ?_
    rintro e w3 ⟨rfl, hy⟩
    have H3 := Lib.hid hy
    clear hy q0
    go_wp2_with fail
    go_end0
    exact ⟨rfl, H3.out⟩
  · rw [show (visitA b.C S r).1 = ldS (toS b.C S r 5) (fndR b.C S r) (fndR b.C S r).x from rfl, show (visitA b.C S r).2 = goto (ldF (toS b.C S r 5) (fndR b.C S r)) .inspect by unfold visitA; rw [if_neg hz]]
    have HZ : Hid (((fndR b.C S r).q == 4) = false) := by show _ = _; rw [HQ.out]; simpa using hz
    clear hz
    clear H hr hF he
    go_enter Tryz.func76, Tryz.ntmps76
    go_wp2_with fail
    go_at_call 107
    refine (findFlow_any H0.out (HR.out.mono (by omega)) HF.out.k).mono ?_
    rintro e w1 ⟨rfl, hy⟩
    have H1 := Lib.hid hy
    clear hy 
    go_wp2_with fail
    go_at_call 104
    refine (loadFlow_any H1.out ((HR.out.to (C := b.C) 5).mono (by omega))).mono ?_
    rintro e w2 ⟨rfl, hy⟩
    have H2 := Lib.hid hy
    clear hy 
    have q0 : w2.cell? ⟨b.g, 20, none⟩ = some (.bool ((fndR b.C S r).q == 4)) := H2.out.cell 20 _ (fun _ _ => rfl)
    rw [HZ.out] at q0
    go_wp2_with fail
    go_at_call 37
    refine (then_any H2.out .inspect _ rfl).mono ?_
    rintro e w3 ⟨rfl, hy⟩
    have H3 := Lib.hid hy
    clear hy q0
    go_wp2_with fail
    go_end0
    exact ⟨rfl, H3.out⟩
end
end Pg
end Go.Proofs.YtcockldefmmhbaaGreatDoor
