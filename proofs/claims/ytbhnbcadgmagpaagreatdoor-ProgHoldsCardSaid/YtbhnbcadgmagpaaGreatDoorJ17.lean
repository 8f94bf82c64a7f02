import Derived.Test.YtbhnbcadgmagpaaGreatDoorBig
import Derived.Test.YtbhnbcadgmagpaaGreatDoorJ1
import Derived.Test.YtbhnbcadgmagpaaGreatDoorJ16
set_option linter.unusedVariables false
set_option linter.unusedSimpArgs false
set_option maxHeartbeats 4000000
set_option maxRecDepth 100000
namespace Go.Proofs.YtbhnbcadgmagpaaGreatDoor
open Go.ChangeShapes Go.WideShapes Go.ChangeAt Go.RowKit Go.aN Go.Lib
namespace Pg
open bg (Ms af bq ay aP ag L4 aH aq ai bD)
open aE (R)
open ak (Ke)
open Me (ptr)
open Tb (UW TM Fw)
section
variable {b:Bs}{W:World}{S:Sh}{r:Rn}
theorem KN(H:Y b S r W)(hr:Rm 9 S)(hF:Fit b.C S r)(he:Env b.w0):Calls Tryz.prog 70 #[ptr b.g] W (Yd b U (jS b.C S r |>.1) (jS b.C S r |>.2)):=by
 have HR:=hid hr;have HF:=hid hF;have HE:=hid he;have H0:=hid H;have I3:=hid (iW H (hr.mono zo) hF.k)
 cases hz:(mB b.C S r).isSome
 ·rw[hz]at I3;rw[show(jS b.C S r).1=n8 b.C S r 5 from rfl,show(jS b.C S r).2=goto (dw b.C S r) .absent by unfold jS;rw[hz];rfl];clear hz;clear H hr hF he;go_in;go_wp2_with fail;refine(I3.out).mono ?_;rintro e w1 ⟨rfl,hy⟩;have H1:=hid hy;clear hy ;go_wp2_with fail;refine(aB H1.out .absent _ rfl).mono ?_;rintro e w2 ⟨rfl,hy⟩;have H2:=hid hy;clear hy ;go_wp2_with fail;go_end0;exact⟨rfl,H2.out⟩
 ·rw[hz]at I3;rw[show(jS b.C S r).1=n8 b.C S r 5 from rfl,show(jS b.C S r).2=goto (dw b.C S r) .release by unfold jS;rw[hz];rfl];clear hz;clear H hr hF he;go_in;go_wp2_with fail;refine(I3.out).mono ?_;rintro e w1 ⟨rfl,hy⟩;have H1:=hid hy;clear hy ;go_wp2_with fail;refine(aB H1.out .release _ rfl).mono ?_;rintro e w2 ⟨rfl,hy⟩;have H2:=hid hy;clear hy ;go_wp2_with fail;go_end0;exact⟨rfl,H2.out⟩
theorem KP(H:Y b S r W)(hr:Rm 9 S)(hF:Fit b.C S r)(he:Env b.w0):Calls Tryz.prog 256 #[ptr b.g] W (Yd b U (jT b.C S r |>.1) (jT b.C S r |>.2)):=by
 have HR:=hid hr;have HF:=hid hF;have HE:=hid he;have H0:=hid H;have I3:=hid (iW H (hr.mono zo) hF.k)
 cases hz:(mB b.C S r).isSome
 ·rw[hz]at I3;rw[show(jT b.C S r).1=n8 b.C S r 5 from rfl,show(jT b.C S r).2=goto (dw b.C S r) .absent by unfold jT;rw[hz];rfl];clear hz;clear H hr hF he;go_in;go_wp2_with fail;refine(I3.out).mono ?_;rintro e w1 ⟨rfl,hy⟩;have H1:=hid hy;clear hy ;go_wp2_with fail;refine(aB H1.out .absent _ rfl).mono ?_;rintro e w2 ⟨rfl,hy⟩;have H2:=hid hy;clear hy ;go_wp2_with fail;go_end0;exact⟨rfl,H2.out⟩
 ·rw[hz]at I3;rw[show(jT b.C S r).1=n8 b.C S r 5 from rfl,show(jT b.C S r).2=goto (dw b.C S r) .again by unfold jT;rw[hz];rfl];clear hz;clear H hr hF he;go_in;go_wp2_with fail;refine(I3.out).mono ?_;rintro e w1 ⟨rfl,hy⟩;have H1:=hid hy;clear hy ;go_wp2_with fail;refine(aB H1.out .again _ rfl).mono ?_;rintro e w2 ⟨rfl,hy⟩;have H2:=hid hy;clear hy ;go_wp2_with fail;go_end0;exact⟨rfl,H2.out⟩
theorem Bn(H:Y b S r W)(hr:Rm 9 S)(hF:Fit b.C S r)(he:Env b.w0):Calls Tryz.prog 108 #[ptr b.g] W (Yd b U ((kH S r).1) ((kH S r).2)):=by
 have HR:=hid hr;have HF:=hid hF;have HE:=hid he;have H0:=hid H;have rF:=H0.out.cell 23 (.int .i64 (r.st:Int)) zf;clear H hr hF he;go_in;go_wp2_with fail;refine(mE H0.out (HR.out.mono zo) (r.st:Int)).mono ?_;rintro e w1 ⟨rfl,hy⟩;have H1:=hid hy;clear hy rF;go_wp2_with fail;refine(aB H1.out .load _ rfl).mono ?_;rintro e w2 ⟨rfl,hy⟩;have H2:=hid hy;clear hy ;go_wp2_with fail;go_end0;exact⟨rfl,H2.out⟩
theorem Dr(H:Y b S r W)(hr:Rm 9 S)(hF:Fit b.C S r)(he:Env b.w0):Calls Tryz.prog 202 #[ptr b.g] W (Yd b U ((nO S r).1) ((nO S r).2)):=by
 have HR:=hid hr;have HF:=hid hF;have HE:=hid he;have H0:=hid H;have rF:=H0.out.cell 23 (.int .i64 (r.st:Int)) zf;clear H hr hF he;go_in;go_wp2_with fail;refine(mE H0.out (HR.out.mono zo) (r.st:Int)).mono ?_;rintro e w1 ⟨rfl,hy⟩;have H1:=hid hy;clear hy rF;go_wp2_with fail;refine(aB H1.out .count _ rfl).mono ?_;rintro e w2 ⟨rfl,hy⟩;have H2:=hid hy;clear hy ;go_wp2_with fail;go_end0;exact⟨rfl,H2.out⟩
theorem Gu(H:Y b S r W)(hr:Rm 9 S)(hF:Fit b.C S r)(he:Env b.w0):Calls Tryz.prog 67 #[ptr b.g] W (Yd b U ((rA S r).1) ((rA S r).2)):=by
 have HR:=hid hr;have HF:=hid hF;have HE:=hid he;have H0:=hid H;clear H hr hF he;go_in;go_wp2_with fail;refine(gL H0.out (HR.out.mono zo)).mono ?_;rintro e w1 ⟨rfl,hy⟩;have H1:=hid hy;clear hy ;go_wp2_with fail;refine(aB H1.out .over _ rfl).mono ?_;rintro e w2 ⟨rfl,hy⟩;have H2:=hid hy;clear hy ;go_wp2_with fail;go_end0;exact⟨rfl,H2.out⟩
theorem KQ(H:Y b S r W)(hr:Rm 9 S)(hF:Fit b.C S r)(he:Env b.w0):Calls Tryz.prog 171 #[ptr b.g] W (Yd b U ((xD S r).1) ((xD S r).2)):=by
 have HR:=hid hr;have HF:=hid hF;have HE:=hid he;have H0:=hid H;clear H hr hF he;go_in;go_wp2_with fail;refine(bF H0.out (HR.out.mono zo)).mono ?_;rintro e w1 ⟨rfl,hy⟩;have H1:=hid hy;clear hy ;go_wp2_with fail;refine(aB H1.out .leave _ rfl).mono ?_;rintro e w2 ⟨rfl,hy⟩;have H2:=hid hy;clear hy ;go_wp2_with fail;go_end0;exact⟨rfl,H2.out⟩
theorem ot(H:Y b S r W)(hr:Rm 9 S)(hF:Fit b.C S r)(he:Env b.w0):Calls Tryz.prog 38 #[ptr b.g] W (Yd b U ((fT S r).1) ((fT S r).2)):=by
 have HR:=hid hr;have HF:=hid hF;have HE:=hid he;have H0:=hid H;clear H hr hF he;go_in;go_wp2_with fail;refine(bF H0.out (HR.out.mono zo)).mono ?_;rintro e w1 ⟨rfl,hy⟩;have H1:=hid hy;clear hy ;go_wp2_with fail;refine(aB H1.out .tick _ rfl).mono ?_;rintro e w2 ⟨rfl,hy⟩;have H2:=hid hy;clear hy ;go_wp2_with fail;go_end0;exact⟨rfl,H2.out⟩
theorem Gv(H:Y b S r W)(hr:Rm 9 S)(hF:Fit b.C S r)(he:Env b.w0):Calls Tryz.prog 75 #[ptr b.g] W (Yd b U ((rB S r).1) ((rB S r).2)):=by
 have HR:=hid hr;have HF:=hid hF;have HE:=hid he;have H0:=hid H;clear H hr hF he;go_in;go_wp2_with fail;refine(aB H0.out .prepare _ rfl).mono ?_;rintro e w1 ⟨rfl,hy⟩;have H1:=hid hy;clear hy ;go_wp2_with fail;go_end0;exact⟨rfl,H1.out⟩
theorem Ds(H:Y b S r W):Calls Tryz.prog 68 #[ptr b.g] W (Yd b U S (goto r .absent)):=by
 have H0:=hid H;clear H;go_in;go_wp2_with fail;refine(aB H0.out .absent _ rfl).mono ?_;rintro e w1 ⟨rfl,hy⟩;have H1:=hid hy;clear hy ;go_wp2_with fail;go_end0;exact⟨rfl,H1.out⟩
theorem KR(H:Y b S r W)(hr:Rm 9 S)(hF:Fit b.C S r)(he:Env b.w0):Calls Tryz.prog 105 #[ptr b.g] W (Yd b U ((jV S r).1) ((jV S r).2)):=by
 have HR:=hid hr;have HF:=hid hF;have HE:=hid he;have H0:=hid H;have HW:=hid (H.word 0)
 cases hz:eA (dK S r)
 ·rw[show(jV S r).1=gX S r 0 from rfl,show(jV S r).2=goto (dK S r) .release by unfold jV;rw[hz];rfl];have HZ:Hid (eA (dK S r)=false):=hz;clear hz;clear H hr hF he;go_in;go_wp2_with fail;refine(bF H0.out (HR.out.mono zo)).mono ?_;rintro e w1 ⟨rfl,hy⟩;have H1:=hid hy;clear hy ;go_wp2_with fail;have HO:=hid (fV H1.out HW.out HF.out.wf HE.out);rw[HZ.out]at HO;refine(HO.out).mono ?_;rintro e w2 ⟨rfl,hy⟩;have H2:=hid hy;clear hy ;go_wp2_with fail;refine(aB H2.out .release _ rfl).mono ?_;rintro e w3 ⟨rfl,hy⟩;have H3:=hid hy;clear hy ;go_wp2_with fail;go_end0;exact⟨rfl,H3.out⟩
 ·rw[show(jV S r).1=gX S r 0 from rfl,show(jV S r).2=goto (dK S r) .kill by unfold jV;rw[hz];rfl];have HZ:Hid (eA (dK S r)=true):=hz;clear hz;clear H hr hF he;go_in;go_wp2_with fail;refine(bF H0.out (HR.out.mono zo)).mono ?_;rintro e w1 ⟨rfl,hy⟩;have H1:=hid hy;clear hy ;go_wp2_with fail;have HO:=hid (fV H1.out HW.out HF.out.wf HE.out);rw[HZ.out]at HO;refine(HO.out).mono ?_;rintro e w2 ⟨rfl,hy⟩;have H2:=hid hy;clear hy ;go_wp2_with fail;refine(aB H2.out .kill _ rfl).mono ?_;rintro e w3 ⟨rfl,hy⟩;have H3:=hid hy;clear hy ;go_wp2_with fail;go_end0;exact⟨rfl,H3.out⟩
theorem KS(H:Y b S r W)(hr:Rm 9 S)(hF:Fit b.C S r)(he:Env b.w0):Calls Tryz.prog 152 #[ptr b.g] W (Yd b U ((jU S r).1) ((jU S r).2)):=by
 have HR:=hid hr;have HF:=hid hF;have HE:=hid he;have H0:=hid H;have HW:=hid (H.word r.x);by_cases hz:sF (af S.ms r.x)=15
 ·rw[show(jU S r).1=gX S r r.x from rfl,show(jU S r).2=j4 (CB S r) r.st .find by unfold jU;rw[if_pos hz]]
  have HZ:Hid (((sF (af S.ms r.x))==15)=true):=by show _=_;simpa using hz
  clear hz;clear H hr hF he;go_in;go_wp2_with fail;refine(gL H0.out (HR.out.mono zo)).mono ?_;rintro e w1 ⟨rfl,hy⟩;have H1:=hid hy;clear hy ;have q1:w1.cell? ⟨b.g,34,none⟩=some (.int .u64 (af S.ms r.x)):=H1.out.cell 34 _ zf;go_wp2_with fail;refine(qj HW.out _ (H1.out.env HE.out)).mono ?_;rintro e w2 ⟨rfl,hy⟩;have H2:=hid (H1.out.next hy);clear hy q1;have q2:=yR (sF (af S.ms r.x)) (nF (af S.ms r.x)) (cF (af S.ms r.x));have q3:=HZ.out;have q4:w2.cell? ⟨b.g,23,none⟩=some (.int .i64 (r.st:Int)):=H2.out.cell 23 _ zf;go_wp2_with fail;refine(fA H2.out (r.st:Int) .find _ rfl).mono ?_;rintro e w3 ⟨rfl,hy⟩;have H3:=hid hy;clear hy q2 q3 q4;go_wp2_with fail;go_end0;exact⟨rfl,H3.out⟩
 ·rw[show(jU S r).1=gX S r r.x from rfl,show(jU S r).2=goto (CB S r) .judge by unfold jU;rw[if_neg hz]]
  have HZ:Hid (((sF (af S.ms r.x))==15)=false):=by show _=_;simpa using hz
  clear hz;clear H hr hF he;go_in;go_wp2_with fail;refine(gL H0.out (HR.out.mono zo)).mono ?_;rintro e w1 ⟨rfl,hy⟩;have H1:=hid hy;clear hy ;have q1:w1.cell? ⟨b.g,34,none⟩=some (.int .u64 (af S.ms r.x)):=H1.out.cell 34 _ zf;go_wp2_with fail;refine(qj HW.out _ (H1.out.env HE.out)).mono ?_;rintro e w2 ⟨rfl,hy⟩;have H2:=hid (H1.out.next hy);clear hy q1;have q2:=yR (sF (af S.ms r.x)) (nF (af S.ms r.x)) (cF (af S.ms r.x));have q3:=HZ.out;have q4:w2.cell? ⟨b.g,23,none⟩=some (.int .i64 (r.st:Int)):=H2.out.cell 23 _ zf;go_wp2_with fail;refine(aB H2.out .judge _ rfl).mono ?_;rintro e w3 ⟨rfl,hy⟩;have H3:=hid hy;clear hy q2 q3 q4;go_wp2_with fail;go_end0;exact⟨rfl,H3.out⟩
end
end Pg
end Go.Proofs.YtbhnbcadgmagpaaGreatDoor
namespace Go.Proofs.YtbhnbcadgmagpaaGreatDoor
open Go.ChangeShapes Go.WideShapes Go.ChangeAt Go.RowKit Go.aN Go.Lib
namespace Pg
open bg (Ms af bq ay aP ag L4 aH aq ai bD)
open aE (R)
open ak (Ke)
open Me (ptr)
open Tb (UW TM Fw)
section
variable {b:Bs}{W:World}{S:Sh}{r:Rn}
theorem aay(H:Y b S r W)(hr:Rm 6 S)(hF:Fit b.C S r)(he:Env b.w0)(v:Int):Calls Tryz.prog 149 #[ptr b.g,.int .i64 v] W (Yd b U ((lE S r v).1) ((lE S r v).2)):=by
 have HR:=hid hr;have HF:=hid hF;have HE:=hid he;have H0:=hid H;have HS:=hid (H0.out.set (r':={ r with v:=v }) 8 (.int .i64 v) zf rfl rfl);have q0:=H0.out.frozen 8;have q1:=H0.out.cell 8 (.int .i64 r.v) zf;have q2:=HS.out.cell 25 (.int .u32 (r.k.a:Int)) zf;have q3:=HS.out.cell 26 (.int .u32 (r.k.b:Int)) zf;have q4:=HS.out.cell 27 (.int .u16 (r.k.p:Int)) zf;have q5:=HS.out.cell 28 (.int .u16 (r.k.q:Int)) zf;have q6:=HS.out.cell 29 (.int .u8 (r.k.r:Int)) zf;clear H hr hF he;go_in;go_wp2_with fail;refine(cD HS.out (HR.out.mono zo) 2 r.k v 0).mono ?_;rintro e w1 ⟨rfl,hy⟩;have H1:=hid hy;clear hy q0 q1 q2 q3 q4 q5 q6;go_wp2_with fail;refine(aB H1.out .unlock _ rfl).mono ?_;rintro e w2 ⟨rfl,hy⟩;have H2:=hid hy;clear hy ;go_wp2_with fail;go_end0;exact⟨rfl,H2.out⟩
theorem uH(H:Y b S r W)(hr:Rm 9 S)(hF:Fit b.C S r)(he:Env b.w0)(hm:r.mr<S.pts.length)(s u v:Int):Calls Tryz.prog 285 #[ptr b.g,.int .i64 s,.int .i64 u,.int .i64 v] W (Yd b U ((eB S r s u v).1) ((eB S r s u v).2)):=by
 have HR:=hid hr;have HF:=hid hF;have HE:=hid he;have H0:=hid H;have HN:=hid (yI hF.wf s u);have HM:=hid hm
 cases hz:ay S.ms r.x r.wf
 ·rw[show eB S r s u v=(fG S r r.x r.wf (kF r.wf s u),goto r .load) by unfold eB;rw[hz];rfl];have HZ:Hid (ay S.ms r.x r.wf=false):=hz;clear hz hm;have rF:=H0.out.cell 34 (.int .u64 r.wf) zf;clear H hr hF he;go_in;go_wp2_with fail;refine(KF HF.out.wf s u _ (H0.out.env HE.out)).mono ?_;rintro e w1 ⟨rfl,hy⟩;have H1:=hid (H0.out.next hy);clear hy rF;go_wp2_with fail;have gT:=hid (gM H1.out (HR.out.mono zo) _ HN.out);rw[HZ.out]at gT;refine(gT.out).mono ?_;rintro e w2 ⟨rfl,hy⟩;have H2:=hid hy;clear hy ;go_wp2_with fail;refine(aB H2.out .load _ rfl).mono ?_;rintro e w3 ⟨rfl,hy⟩;have H3:=hid hy;clear hy ;go_wp2_with fail;go_end0;exact⟨rfl,H3.out⟩
 ·rw[show eB S r s u v=(xB (fG S r r.x r.wf (kF r.wf s u)) r v,{ r with v:=v,at_:=.count }) by unfold eB;rw[hz];rfl];have HZ:Hid (ay S.ms r.x r.wf=true):=hz;clear hz hm;have rF:=H0.out.cell 34 (.int .u64 r.wf) zf;clear H hr hF he;go_in;go_wp2_with fail;refine(KF HF.out.wf s u _ (H0.out.env HE.out)).mono ?_;rintro e w1 ⟨rfl,hy⟩;have H1:=hid (H0.out.next hy);clear hy rF;go_wp2_with fail;have gT:=hid (gM H1.out (HR.out.mono zo) _ HN.out);rw[HZ.out]at gT;refine(gT.out).mono ?_;rintro e w2 ⟨rfl,hy⟩;have H2:=hid hy;clear hy ;have HS:=hid (H2.out.set (r':={ r with v:=v }) 8 (.int .i64 v) zf rfl rfl);have q0:=H2.out.frozen 8;have q1:=H2.out.cell 8 (.int .i64 r.v) zf;have q2:=HS.out.cell 25 (.int .u32 (r.k.a:Int)) zf;have q3:=HS.out.cell 26 (.int .u32 (r.k.b:Int)) zf;have q4:=HS.out.cell 27 (.int .u16 (r.k.p:Int)) zf;have q5:=HS.out.cell 28 (.int .u16 (r.k.q:Int)) zf;have q6:=HS.out.cell 29 (.int .u8 (r.k.r:Int)) zf;go_wp2_with fail;refine(yT HS.out ((HR.out.sw r.x r.wf (kF r.wf s u)).mono zo) HM.out 2 r.k v 0).mono ?_;rintro e w3 ⟨rfl,hy⟩;have H3:=hid hy;clear hy q0 q1 q2 q3 q4 q5 q6;go_wp2_with fail;refine(aB H3.out .count _ rfl).mono ?_;rintro e w4 ⟨rfl,hy⟩;have H4:=hid hy;clear hy ;go_wp2_with fail;go_end0;exact⟨rfl,H4.out⟩
theorem KT(H:Y b S r W)(hr:Rm 9 S)(hF:Fit b.C S r)(he:Env b.w0)(hm:r.mr<S.pts.length):Calls Tryz.prog 258 #[ptr b.g] W (Yd b U ((xC S r).1) ((xC S r).2)):=by
 have HR:=hid hr;have HF:=hid hF;have HE:=hid he;have H0:=hid H;have HM:=hid hm;clear hm;have rF:=H0.out.cell 34 (.int .u64 r.wf) zf;clear H hr hF he;go_in;go_wp2_with fail;refine(qj HF.out.wf _ (H0.out.env HE.out)).mono ?_;rintro e w1 ⟨rfl,hy⟩;have H1:=hid (H0.out.next hy);clear hy rF;go_wp2_with fail;have H2:=hid (H1.out.alloc (.cells #[.int .i64 (sF r.wf),.int .i64 (nF r.wf),.int .i64 (cF r.wf)] 263));refine(uH H2.out HR.out HF.out HE.out HM.out (sF r.wf) (cF r.wf) 4).mono ?_;rintro e w3 ⟨rfl,hy⟩;have H3:=hid hy;clear hy ;go_wp2_with fail;go_end0;exact⟨rfl,H3.out⟩
theorem Bo(H:Y b S r W)(hr:Rm 9 S)(hF:Fit b.C S r)(he:Env b.w0)(hm:r.mr<S.pts.length):Calls Tryz.prog 259 #[ptr b.g] W (Yd b U ((kI b.C S r).1) ((kI b.C S r).2)):=by
 have HR:=hid hr;have HF:=hid hF;have HE:=hid he;have H0:=hid H;have HM:=hid hm;clear hm;clear H hr hF he;go_in;go_wp2_with fail;refine iz (S:=λw'=>w'.cell? ⟨b.g,32,none⟩=some (.int .i64 r.tn)) 7 zk (H0.out.drew.cell 32 (.int .i64 r.tn) zf) (λhH=>?_);refine eS 0 2 hH ?_
 try simp only[zq]
 refine ij [2,3,4] (i:=1) (oi:=⟨some 3,_,_,_,_,_⟩) (v:=?v2) rfl zk zk zk zk zh (Or.inl ⟨rfl,?c2⟩) hH ?r2
 case c2=>(intro w' _;go_simp;(try with_reducible rfl))
 try simp only[zq]
 refine ij [3,4] (i:=2) (oi:=⟨some 4,_,_,_,_,_⟩) (v:=?v3) rfl zk zk zk zk zh (Or.inl ⟨rfl,?c3⟩) hH ?r3
 case c3=>(intro w' _;go_simp;(try with_reducible rfl))
 try simp only[zq]
 refine ij [4] (i:=3) (oi:=⟨some 5,_,_,_,_,_⟩) (v:=?v4) rfl zk zk zk zk zh (Or.inl ⟨rfl,?c4⟩) hH ?r4
 case c4=>(intro w' _;go_simp;(try with_reducible rfl))
 try simp only[zq]
 refine eS 4 6 hH ?_
 try simp only[zq]
 refine ij [6] (i:=5) (oi:=⟨some 7,_,_,_,_,_⟩) (v:=?v6) rfl zk zk zk zk zh (Or.inl ⟨rfl,?c6⟩) hH ?r6
 case c6=>(intro w' _;go_simp;(try with_reducible rfl))
 try simp only[zq]
 refine bu (rs:=[6]) zk zs (eW.cons rfl (λK hK=>?_) (eW.nil));go_simp;refine(nH H0.out.drew HF.out.wg HE.out HF.out.cT).mono ?_;rintro e w2 ⟨rfl,hy⟩;refine hK.out _ _ (hy.cell 32 (.int .i64 r.tn) zf) (λhH=>?_);clear hK K;have H2:=hid hy;clear hy H0
 try simp only[zq]
 refine bu (rs:=[7]) zk zs (eW.end_ rfl (λK hK=>?_));go_simp;refine(uH H2.out HR.out HF.out HE.out HM.out r.tn (ju b.C r) 1).mono ?_;rintro e w3 ⟨rfl,hy⟩;refine hK.out _ _ ?_;clear hK K;have H3:=hid hy;clear hy H2
 try simp only[zq]
 refine gm zk ?_ _;clear hH;go_wp2_with fail;go_end0;exact⟨rfl,H3.out⟩
theorem uI(H:Y b S r W)(hr:Rm 8 S)(hF:Fit b.C S r)(he:Env b.w0):Calls Tryz.prog 99 #[ptr b.g] W (Yd b U ((dP S r).1) ((dP S r).2)):=by
 have HR:=hid hr;have HF:=hid hF;have HE:=hid he;have H0:=hid H;have HL:Hid (S.ms.ls.length<=1000000000000):=(hr.mono (Nat.zero_le _)).l;by_cases hz:af S.ms r.v=18446744073709551615
 ·rw[show dP S r=eE (gX S r r.v) (PE S r) by unfold dP;rw[if_pos hz]]
  have HZ:Hid ((af S.ms r.v==18446744073709551615)=true):=by show _=_;simpa using hz
  clear hz;clear H hr hF he;go_in;go_wp2_with fail;refine wp_region_held_drew (S:=λw'=>w'.cell? ⟨b.g,0,none⟩=some (ptr b.B)/\w'.cell? ⟨b.B,18,none⟩=some (ptr b.mb)/\w'.cell? ⟨b.g,1,none⟩=some (.int .i64 r.t)/\w'.cell? ⟨b.g,8,none⟩=some (.int .i64 r.v)) zk (⟨H0.out.drew.cell 0 (ptr b.B) zf,H0.out.drew.shared 18 (ptr b.mb) zg,H0.out.drew.cell 1 (.int .i64 r.t) zf,H0.out.drew.cell 8 (.int .i64 r.v) zf⟩) (λhH=>?_);refine zr 0 2 hH ?_;refine zr 1 3 hH ?_;refine zr 2 4 hH ?_;refine zr 3 5 hH ?_;refine zr 4 6 hH ?_;refine zr 5 7 hH ?_;refine zr 6 8 hH ?_;refine zr 7 9 hH ?_;refine zr 8 10 hH ?_;refine zr 9 11 hH ?_;refine zr 10 12 hH ?_;refine zr 11 13 hH ?_;refine zr 12 14 hH ?_;refine zr 13 15 hH ?_;refine zr 14 16 hH ?_;refine zr 15 17 hH ?_;refine zr 16 18 hH ?_
  try simp only[zq]
  refine zrd 17 (λK hK=>?_);go_simp;refine(H0.out.drew.does (λOm h=>Me.my h r.t r.v HL.out)).mono ?_;rintro e w2 ⟨rfl,hy⟩;refine hK.out _ _ (⟨hy.cell 0 (ptr b.B) zf,hy.shared 18 (ptr b.mb) zg,hy.cell 1 (.int .i64 r.t) zf,hy.cell 8 (.int .i64 r.v) zf⟩) (λhH=>?_);clear hK K;have H2:=hid hy;have H3:=hid (hy.set (r':=PE S r) 36 (.int .u64 (af S.ms r.v)) zf rfl rfl);clear hy H0
  try simp only[zq]
  refine zr 18 20 hH ?_;refine zr 19 21 hH ?_
  try simp only[zq]
  refine zrd 20 (λK hK=>?_);have f0:=H2.out.frozen 36;have c0:=H2.out.cell 36 _ zf;go_simp;clear c0 f0;refine hK.out _ _ (⟨H3.out.cell 0 (ptr b.B) zf,H3.out.shared 18 (ptr b.mb) zg,H3.out.cell 1 (.int .i64 r.t) zf,H3.out.cell 8 (.int .i64 r.v) zf⟩) (λhH=>?_);clear hK K;obtain⟨w3,EW⟩:∃VV,w2.setCell ⟨b.g,36,none⟩ (.int .u64 (af S.ms r.v))=VV:=⟨_,rfl⟩;rw[EW]at H3 hH ⊢;clear EW H2
  try simp only[zq]
  refine wpAnyH_done zk ?_ _;clear hH;have q0:w3.cell? ⟨b.g,36,none⟩=some (.int .u64 (af S.ms r.v)):=H3.out.cell 36 _ zf;have q1:=HZ.out;go_wp2_with fail;refine(sM H3.out ((HR.out.ld r.v).mono zo)).mono ?_;rintro e w4 ⟨rfl,hy⟩;have H4:=hid hy;clear hy q0 q1;go_wp2_with fail;go_end0;exact⟨rfl,H4.out⟩
 ·rw[show dP S r=(gX S r r.v,goto (PE S r) .add) by unfold dP;rw[if_neg hz]]
  have HZ:Hid ((af S.ms r.v==18446744073709551615)=false):=by show _=_;simpa using hz
  clear hz;clear H hr hF he;go_in;go_wp2_with fail;refine wp_region_held_drew (S:=λw'=>w'.cell? ⟨b.g,0,none⟩=some (ptr b.B)/\w'.cell? ⟨b.B,18,none⟩=some (ptr b.mb)/\w'.cell? ⟨b.g,1,none⟩=some (.int .i64 r.t)/\w'.cell? ⟨b.g,8,none⟩=some (.int .i64 r.v)) zk (⟨H0.out.drew.cell 0 (ptr b.B) zf,H0.out.drew.shared 18 (ptr b.mb) zg,H0.out.drew.cell 1 (.int .i64 r.t) zf,H0.out.drew.cell 8 (.int .i64 r.v) zf⟩) (λhH=>?_);refine zr 0 2 hH ?_;refine zr 1 3 hH ?_;refine zr 2 4 hH ?_;refine zr 3 5 hH ?_;refine zr 4 6 hH ?_;refine zr 5 7 hH ?_;refine zr 6 8 hH ?_;refine zr 7 9 hH ?_;refine zr 8 10 hH ?_;refine zr 9 11 hH ?_;refine zr 10 12 hH ?_;refine zr 11 13 hH ?_;refine zr 12 14 hH ?_;refine zr 13 15 hH ?_;refine zr 14 16 hH ?_;refine zr 15 17 hH ?_;refine zr 16 18 hH ?_
  try simp only[zq]
  refine zrd 17 (λK hK=>?_);go_simp;refine(H0.out.drew.does (λOm h=>Me.my h r.t r.v HL.out)).mono ?_;rintro e w2 ⟨rfl,hy⟩;refine hK.out _ _ (⟨hy.cell 0 (ptr b.B) zf,hy.shared 18 (ptr b.mb) zg,hy.cell 1 (.int .i64 r.t) zf,hy.cell 8 (.int .i64 r.v) zf⟩) (λhH=>?_);clear hK K;have H2:=hid hy;have H3:=hid (hy.set (r':=PE S r) 36 (.int .u64 (af S.ms r.v)) zf rfl rfl);clear hy H0
  try simp only[zq]
  refine zr 18 20 hH ?_;refine zr 19 21 hH ?_
  try simp only[zq]
  refine zrd 20 (λK hK=>?_);have f0:=H2.out.frozen 36;have c0:=H2.out.cell 36 _ zf;go_simp;clear c0 f0;refine hK.out _ _ (⟨H3.out.cell 0 (ptr b.B) zf,H3.out.shared 18 (ptr b.mb) zg,H3.out.cell 1 (.int .i64 r.t) zf,H3.out.cell 8 (.int .i64 r.v) zf⟩) (λhH=>?_);clear hK K;obtain⟨w3,EW⟩:∃VV,w2.setCell ⟨b.g,36,none⟩ (.int .u64 (af S.ms r.v))=VV:=⟨_,rfl⟩;rw[EW]at H3 hH ⊢;clear EW H2
  try simp only[zq]
  refine wpAnyH_done zk ?_ _;clear hH;have q0:w3.cell? ⟨b.g,36,none⟩=some (.int .u64 (af S.ms r.v)):=H3.out.cell 36 _ zf;have q1:=HZ.out;go_wp2_with fail;refine(aB H3.out .add _ rfl).mono ?_;rintro e w4 ⟨rfl,hy⟩;have H4:=hid hy;clear hy q0 q1;go_wp2_with fail;go_end0;exact⟨rfl,H4.out⟩
theorem Gw(H:Y b S r W)(hr:Rm 9 S)(hF:Fit b.C S r)(he:Env b.w0):Calls Tryz.prog 99 #[ptr b.g] W (Yd b U (dP S r).1 (dP S r).2):=uI H (hr.mono zo) hF he
theorem vW(H:Y b S r W)(hr:Rm 9 S)(hF:Fit b.C S r)(he:Env b.w0):Calls Tryz.prog 64 #[ptr b.g] W (Yd b U ((ia S r).1) ((ia S r).2)):=by
 have HR:=hid hr;have HF:=hid hF;have HE:=hid he;have H0:=hid H;have HS:=hid (H0.out.set (r':={ r with v:=2 }) 8 (.int .i64 2) zf rfl rfl);have q0:=H0.out.frozen 8;have q1:=H0.out.cell 8 (.int .i64 r.v) zf;have M5:Hid (Fit b.C (say S r 2 k0 2 0) { r with v:=2 }):=⟨hF.wf,hF.wg,hF.wc,hF.k,hF.p,hF.st,hF.cn,hF.cT,hF.z,λh=>by have:=hF.mr h;show r.mr<(S.pts++_).length;rw[List.length_append];omega,hF.q,hF.tt⟩;clear H hr hF he;go_in;go_wp2_with fail;refine(jY HS.out (HR.out.mono zo) 2 2 0).mono ?_;rintro e w1 ⟨rfl,hy⟩;have H1:=hid hy;clear hy q0 q1;go_wp2_with fail;have ZD:Hid (Rm 8 (say S r 2 k0 2 0)):=HR.out.say ..;refine(uI H1.out ZD.out M5.out HE.out).mono ?_;rintro e w2 ⟨rfl,hy⟩;have H2:=hid hy;clear hy ;go_wp2_with fail;go_end0;exact⟨rfl,H2.out⟩
end
end Pg
end Go.Proofs.YtbhnbcadgmagpaaGreatDoor
namespace Go.Proofs.YtbhnbcadgmagpaaGreatDoor
open Go.ChangeShapes Go.WideShapes Go.ChangeAt Go.RowKit Go.aN Go.Lib
namespace Pg
open bg (Ms af bq ay aP ag L4 aH aq ai bD)
open aE (R)
open ak (Ke)
open Me (ptr)
open Tb (UW TM Fw)
section
variable {b:Bs}{W:World}{S:Sh}{r:Rn}
theorem Gx(H:Y b S r W)(hr:Rm 9 S)(hF:Fit b.C S r)(he:Env b.w0):Calls Tryz.prog 206 #[ptr b.g] W (Yd b U ((gG S r).1) ((gG S r).2)):=by
 have HR:=hid hr;have HF:=hid hF;have HE:=hid he;have H0:=hid H;have HW:=hid (H.word 0);obtain⟨nb,hnb⟩:∃z,MV r=z:=⟨_,rfl⟩;obtain⟨nn,hnn⟩:∃z,NP r=z:=⟨_,rfl⟩
 have HNX:Hid (∀W,Calls Tryz.prog 257 #[.int .i64 (sF r.wf),.bool (r.dn != r.tu),.agg #[.int .u8 (r.p.pr:Int),.int .u32 (r.p.sr:Int),.int .u32 (r.p.ds:Int),.int .u16 (r.p.sp:Int),.int .u16 (r.p.dp:Int),.int .u8 (r.p.fl:Int),.int .u8 (r.p.kd:Int)]] W λx w'=>x = .returned (.tuple #[.int .i64 nn,.bool nb])/\Below W.heap.size W w'):=λW=>by
  rw[← hnn,← hnb];exact Fs.mz _ _ _ _ _ _ _ _ _ (by have:=Gm hF.wf;have:=this.v0;have:=(Gm hF.wf).v1;omega) (by have:=hF.p.fl;omega) W
 cases hz:eA (dK S r)
 ·cases nb
  ·have hj:iJ (fO S (dK S r))=goto (fO S (dK S r)) .sure:=by unfold iJ;rw[show eA (fO S (dK S r))=false from hz,show MV (fO S (dK S r))=false from hnb];rfl
   rw[show(gG S r).1=mC (gX S r 0)from rfl,show(gG S r).2=_ from hj];have HZ:Hid (eA (fO (gX S r 0) (dK S r))=false):=hz;clear hz hj;clear H hr hF he
   try clear hnb hnn
   go_in;go_wp2_with fail;refine(bF H0.out (HR.out.mono zo)).mono ?_;rintro e w1 ⟨rfl,hy⟩;have H1:=hid hy;clear hy;go_wp2_with fail;refine(mH H1.out ((HR.out.ld 0).mono zo)).mono ?_;rintro e w2 ⟨rfl,hy⟩;have H2:=hid hy;clear hy;go_wp2_with fail;have HO:=hid (fV H2.out HW.out HF.out.wf HE.out);rw[HZ.out]at HO;refine HO.out.mono ?_;rintro e w3 ⟨rfl,hy⟩;have H3:=hid hy;clear hy HO H1 H2;go_wp2_with fail;refine wp_region_held_drew (S:=λw'=>w'.cell? ⟨b.g,34,none⟩=some (.int .u64 r.wf)/\w'.cell? ⟨b.g,19,none⟩=some (.bool r.dn)/\w'.cell? ⟨b.g,31,none⟩=some (.bool r.tu)/\w'.cell? ⟨b.g,12,none⟩=some (.int .u8 (r.p.pr:Int))/\w'.cell? ⟨b.g,13,none⟩=some (.int .u32 (r.p.sr:Int))/\w'.cell? ⟨b.g,14,none⟩=some (.int .u32 (r.p.ds:Int))/\w'.cell? ⟨b.g,15,none⟩=some (.int .u16 (r.p.sp:Int))/\w'.cell? ⟨b.g,16,none⟩=some (.int .u16 (r.p.dp:Int))/\w'.cell? ⟨b.g,17,none⟩=some (.int .u8 (r.p.fl:Int))/\w'.cell? ⟨b.g,18,none⟩=some (.int .u8 (r.p.kd:Int))) zk (⟨H3.out.drew.cell 34 (.int .u64 r.wf) zf,H3.out.drew.cell 19 (.bool r.dn) zf,H3.out.drew.cell 31 (.bool r.tu) zf,H3.out.drew.cell 12 (.int .u8 (r.p.pr:Int)) zf,H3.out.drew.cell 13 (.int .u32 (r.p.sr:Int)) zf,H3.out.drew.cell 14 (.int .u32 (r.p.ds:Int)) zf,H3.out.drew.cell 15 (.int .u16 (r.p.sp:Int)) zf,H3.out.drew.cell 16 (.int .u16 (r.p.dp:Int)) zf,H3.out.drew.cell 17 (.int .u8 (r.p.fl:Int)) zf,H3.out.drew.cell 18 (.int .u8 (r.p.kd:Int)) zf⟩) (λhH=>?_);refine zr 0 17 hH ?_;refine zr 1 18 hH ?_;refine zr 2 19 hH ?_;refine zr 3 20 hH ?_;refine zr 6 23 hH ?_;refine zr 7 24 hH ?_;refine zr 8 25 hH ?_;refine zr 9 26 hH ?_;refine zr 10 27 hH ?_;refine zr 11 28 hH ?_;refine zr 12 29 hH ?_;refine zr 13 30 hH ?_;refine zr 14 31 hH ?_;refine zr 15 32 hH ?_;refine zr 16 33 hH ?_;refine zr 17 34 hH ?_;refine zr 18 35 hH ?_
   try simp only[zq]
   refine zrd 4 (λK hK=>?_);go_simp;refine(qj HF.out.wf _ (H3.out.drew.env HE.out)).mono ?_;rintro e w4 ⟨rfl,hy⟩;refine hK.out _ _ (⟨(H3.out.drew.next hy).cell 34 (.int .u64 r.wf) zf,(H3.out.drew.next hy).cell 19 (.bool r.dn) zf,(H3.out.drew.next hy).cell 31 (.bool r.tu) zf,(H3.out.drew.next hy).cell 12 (.int .u8 (r.p.pr:Int)) zf,(H3.out.drew.next hy).cell 13 (.int .u32 (r.p.sr:Int)) zf,(H3.out.drew.next hy).cell 14 (.int .u32 (r.p.ds:Int)) zf,(H3.out.drew.next hy).cell 15 (.int .u16 (r.p.sp:Int)) zf,(H3.out.drew.next hy).cell 16 (.int .u16 (r.p.dp:Int)) zf,(H3.out.drew.next hy).cell 17 (.int .u8 (r.p.fl:Int)) zf,(H3.out.drew.next hy).cell 18 (.int .u8 (r.p.kd:Int)) zf⟩) (λhH=>?_);clear hK K;have H4:=hid (H3.out.drew.next hy);clear hy H3
   try simp only[zq]
   refine zqt 5 (some 22) ?v18 rfl rfl ?c18 hH ?r18
   case c18=>(intro w' _;have q:=yR (sF r.wf) (nF r.wf) (cF r.wf) w';go_simp;(try with_reducible rfl))
   try simp only[zq]
   refine zrd 19 (λK hK=>?_);go_simp;refine(HNX.out _).mono ?_;rintro e w5 ⟨rfl,hy⟩;refine hK.out _ _ (⟨(H4.out.next hy).cell 34 (.int .u64 r.wf) zf,(H4.out.next hy).cell 19 (.bool r.dn) zf,(H4.out.next hy).cell 31 (.bool r.tu) zf,(H4.out.next hy).cell 12 (.int .u8 (r.p.pr:Int)) zf,(H4.out.next hy).cell 13 (.int .u32 (r.p.sr:Int)) zf,(H4.out.next hy).cell 14 (.int .u32 (r.p.ds:Int)) zf,(H4.out.next hy).cell 15 (.int .u16 (r.p.sp:Int)) zf,(H4.out.next hy).cell 16 (.int .u16 (r.p.dp:Int)) zf,(H4.out.next hy).cell 17 (.int .u8 (r.p.fl:Int)) zf,(H4.out.next hy).cell 18 (.int .u8 (r.p.kd:Int)) zf⟩) (λhH=>?_);clear hK K;have H5:=hid (H4.out.next hy);clear hy H4
   try simp only[zq]
   refine zr 20 16 hH ?_;refine zr 21 37 hH ?_;refine zr 22 38 hH ?_;refine zr 23 2 hH ?_;refine zr 24 3 hH ?_
   try simp only[zq]
   refine wpAnyH_done zk ?_ _;clear hH;go_wp2_with fail;refine(aB H5.out .sure _ rfl).mono ?_;rintro e w6 ⟨rfl,hy⟩;have H6:=hid hy;clear hy
   (try clear q0 q1 HS)
   go_wp2_with fail;go_end0;exact⟨rfl,H6.out⟩
  ·have hj:iJ (fO S (dK S r)) = { fO S (dK S r)with tn:=nn,at_:=.advance }:=by unfold iJ;rw[show eA (fO S (dK S r))=false from hz,show MV (fO S (dK S r))=true from hnb,show NP (fO S (dK S r))=nn from hnn];rfl
   rw[show(gG S r).1=mC (gX S r 0)from rfl,show(gG S r).2=_ from hj];have HZ:Hid (eA (fO (gX S r 0) (dK S r))=false):=hz;clear hz hj;clear H hr hF he
   try clear hnb hnn
   go_in;go_wp2_with fail;refine(bF H0.out (HR.out.mono zo)).mono ?_;rintro e w1 ⟨rfl,hy⟩;have H1:=hid hy;clear hy;go_wp2_with fail;refine(mH H1.out ((HR.out.ld 0).mono zo)).mono ?_;rintro e w2 ⟨rfl,hy⟩;have H2:=hid hy;clear hy;go_wp2_with fail;have HO:=hid (fV H2.out HW.out HF.out.wf HE.out);rw[HZ.out]at HO;refine HO.out.mono ?_;rintro e w3 ⟨rfl,hy⟩;have H3:=hid hy;clear hy HO H1 H2;go_wp2_with fail;refine wp_region_held_drew (S:=λw'=>w'.cell? ⟨b.g,34,none⟩=some (.int .u64 r.wf)/\w'.cell? ⟨b.g,19,none⟩=some (.bool r.dn)/\w'.cell? ⟨b.g,31,none⟩=some (.bool r.tu)/\w'.cell? ⟨b.g,12,none⟩=some (.int .u8 (r.p.pr:Int))/\w'.cell? ⟨b.g,13,none⟩=some (.int .u32 (r.p.sr:Int))/\w'.cell? ⟨b.g,14,none⟩=some (.int .u32 (r.p.ds:Int))/\w'.cell? ⟨b.g,15,none⟩=some (.int .u16 (r.p.sp:Int))/\w'.cell? ⟨b.g,16,none⟩=some (.int .u16 (r.p.dp:Int))/\w'.cell? ⟨b.g,17,none⟩=some (.int .u8 (r.p.fl:Int))/\w'.cell? ⟨b.g,18,none⟩=some (.int .u8 (r.p.kd:Int))) zk (⟨H3.out.drew.cell 34 (.int .u64 r.wf) zf,H3.out.drew.cell 19 (.bool r.dn) zf,H3.out.drew.cell 31 (.bool r.tu) zf,H3.out.drew.cell 12 (.int .u8 (r.p.pr:Int)) zf,H3.out.drew.cell 13 (.int .u32 (r.p.sr:Int)) zf,H3.out.drew.cell 14 (.int .u32 (r.p.ds:Int)) zf,H3.out.drew.cell 15 (.int .u16 (r.p.sp:Int)) zf,H3.out.drew.cell 16 (.int .u16 (r.p.dp:Int)) zf,H3.out.drew.cell 17 (.int .u8 (r.p.fl:Int)) zf,H3.out.drew.cell 18 (.int .u8 (r.p.kd:Int)) zf⟩) (λhH=>?_);refine zr 0 17 hH ?_;refine zr 1 18 hH ?_;refine zr 2 19 hH ?_;refine zr 3 20 hH ?_;refine zr 6 23 hH ?_;refine zr 7 24 hH ?_;refine zr 8 25 hH ?_;refine zr 9 26 hH ?_;refine zr 10 27 hH ?_;refine zr 11 28 hH ?_;refine zr 12 29 hH ?_;refine zr 13 30 hH ?_;refine zr 14 31 hH ?_;refine zr 15 32 hH ?_;refine zr 16 33 hH ?_;refine zr 17 34 hH ?_;refine zr 18 35 hH ?_
   try simp only[zq]
   refine zrd 4 (λK hK=>?_);go_simp;refine(qj HF.out.wf _ (H3.out.drew.env HE.out)).mono ?_;rintro e w4 ⟨rfl,hy⟩;refine hK.out _ _ (⟨(H3.out.drew.next hy).cell 34 (.int .u64 r.wf) zf,(H3.out.drew.next hy).cell 19 (.bool r.dn) zf,(H3.out.drew.next hy).cell 31 (.bool r.tu) zf,(H3.out.drew.next hy).cell 12 (.int .u8 (r.p.pr:Int)) zf,(H3.out.drew.next hy).cell 13 (.int .u32 (r.p.sr:Int)) zf,(H3.out.drew.next hy).cell 14 (.int .u32 (r.p.ds:Int)) zf,(H3.out.drew.next hy).cell 15 (.int .u16 (r.p.sp:Int)) zf,(H3.out.drew.next hy).cell 16 (.int .u16 (r.p.dp:Int)) zf,(H3.out.drew.next hy).cell 17 (.int .u8 (r.p.fl:Int)) zf,(H3.out.drew.next hy).cell 18 (.int .u8 (r.p.kd:Int)) zf⟩) (λhH=>?_);clear hK K;have H4:=hid (H3.out.drew.next hy);clear hy H3
   try simp only[zq]
   refine zqt 5 (some 22) ?v41 rfl rfl ?c41 hH ?r41
   case c41=>(intro w' _;have q:=yR (sF r.wf) (nF r.wf) (cF r.wf) w';go_simp;(try with_reducible rfl))
   try simp only[zq]
   refine zrd 19 (λK hK=>?_);go_simp;refine(HNX.out _).mono ?_;rintro e w5 ⟨rfl,hy⟩;refine hK.out _ _ (⟨(H4.out.next hy).cell 34 (.int .u64 r.wf) zf,(H4.out.next hy).cell 19 (.bool r.dn) zf,(H4.out.next hy).cell 31 (.bool r.tu) zf,(H4.out.next hy).cell 12 (.int .u8 (r.p.pr:Int)) zf,(H4.out.next hy).cell 13 (.int .u32 (r.p.sr:Int)) zf,(H4.out.next hy).cell 14 (.int .u32 (r.p.ds:Int)) zf,(H4.out.next hy).cell 15 (.int .u16 (r.p.sp:Int)) zf,(H4.out.next hy).cell 16 (.int .u16 (r.p.dp:Int)) zf,(H4.out.next hy).cell 17 (.int .u8 (r.p.fl:Int)) zf,(H4.out.next hy).cell 18 (.int .u8 (r.p.kd:Int)) zf⟩) (λhH=>?_);clear hK K;have H5:=hid (H4.out.next hy);clear hy H4
   try simp only[zq]
   refine zr 20 16 hH ?_;refine zr 21 37 hH ?_;refine zr 22 38 hH ?_;refine zr 23 2 hH ?_;refine zr 24 3 hH ?_
   try simp only[zq]
   refine wpAnyH_done zk ?_ _;clear hH;have HS:=hid (H5.out.set (r':={ fO S (dK S r)with tn:=nn }) 32 (.int .i64 nn) zf rfl rfl);have q0:=H5.out.frozen 32;have q1:w5.cell? ⟨b.g,32,none⟩=some (.int .i64 r.tn):=H5.out.cell 32 _ zf;go_wp2_with fail;refine(aB HS.out .advance _ rfl).mono ?_;rintro e w6 ⟨rfl,hy⟩;have H6:=hid hy;clear hy
   (try clear q0 q1 HS)
   go_wp2_with fail;go_end0;exact⟨rfl,H6.out⟩
 ·have hj:iJ (fO S (dK S r))=j4 (fO S (dK S r)) r.st .look:=by unfold iJ;rw[show eA (fO S (dK S r))=true from hz];rfl
  rw[show(gG S r).1=mC (gX S r 0)from rfl,show(gG S r).2=_ from hj];have HZ:Hid (eA (fO (gX S r 0) (dK S r))=true):=hz;clear hz hj;clear H hr hF he
  try clear hnb hnn
  go_in;go_wp2_with fail;refine(bF H0.out (HR.out.mono zo)).mono ?_;rintro e w1 ⟨rfl,hy⟩;have H1:=hid hy;clear hy;go_wp2_with fail;refine(mH H1.out ((HR.out.ld 0).mono zo)).mono ?_;rintro e w2 ⟨rfl,hy⟩;have H2:=hid hy;clear hy;go_wp2_with fail;have HO:=hid (fV H2.out HW.out HF.out.wf HE.out);rw[HZ.out]at HO;refine HO.out.mono ?_;rintro e w3 ⟨rfl,hy⟩;have H3:=hid hy;clear hy HO H1 H2;have q0:w3.cell? ⟨b.g,23,none⟩=some (.int .i64 (r.st:Int)):=H3.out.cell 23 _ zf;go_wp2_with fail;refine(fA H3.out (r.st:Int) .look _ rfl).mono ?_;rintro e w4 ⟨rfl,hy⟩;have H4:=hid hy;clear hy q0;go_wp2_with fail;go_end0;exact⟨rfl,H4.out⟩
theorem N6(H:Y b S r W)(hr:Rm 9 S)(hF:Fit b.C S r)(he:Env b.w0):Calls Tryz.prog 142 #[ptr b.g] W (Yd b U ((rq S r).1) ((rq S r).2)):=by
 have HR:=hid hr;have HF:=hid hF;have HE:=hid he;have H0:=hid H;have HL:Hid (S.ms.ls.length<=1000000000000):=(hr.mono (Nat.zero_le _)).l;obtain⟨z,I4⟩:∃z,(r.wc+1) % 18446744073709551616=z:=⟨_,rfl⟩
 have HWZ:Hid (0<=z/\z<=18446744073709551615):=by show _/\_;omega
 have HM:Hid (IntKind.u64.wrap (r.wc+1)=z):=by show _=_;rw[← I4];simp[IntKind.wrap,IntKind.bits,IntKind.signed]
 cases hz:ay S.ms r.v r.wc
 ·rw[show rq S r=(fG S r r.v r.wc z,goto r .count) by unfold rq;rw[hz,I4];rfl];have HZ:Hid (ay S.ms r.v r.wc=false):=hz;clear hz I4;clear H hr hF he;go_in;go_wp2_with fail;refine wp_region_held_drew (S:=λw'=>w'.cell? ⟨b.g,0,none⟩=some (ptr b.B)/\w'.cell? ⟨b.B,18,none⟩=some (ptr b.mb)/\w'.cell? ⟨b.g,1,none⟩=some (.int .i64 r.t)/\w'.cell? ⟨b.g,8,none⟩=some (.int .i64 r.v)/\w'.cell? ⟨b.g,36,none⟩=some (.int .u64 r.wc)) zk (⟨H0.out.drew.cell 0 (ptr b.B) zf,H0.out.drew.shared 18 (ptr b.mb) zg,H0.out.drew.cell 1 (.int .i64 r.t) zf,H0.out.drew.cell 8 (.int .i64 r.v) zf,H0.out.drew.cell 36 (.int .u64 r.wc) zf⟩) (λhH=>?_);refine zr 0 2 hH ?_;refine zr 1 3 hH ?_;refine zr 2 4 hH ?_;refine zr 3 5 hH ?_;refine zr 4 6 hH ?_;refine zr 5 7 hH ?_;refine zr 6 8 hH ?_;refine zr 7 9 hH ?_;refine zr 8 10 hH ?_;refine zr 9 11 hH ?_;refine zr 10 12 hH ?_;refine zr 11 13 hH ?_;refine zr 12 14 hH ?_;refine zr 13 15 hH ?_;refine zr 14 16 hH ?_;refine zr 15 17 hH ?_;refine zr 16 18 hH ?_;refine zr 17 19 hH ?_;refine zr 18 20 hH ?_;refine zr 19 21 hH ?_;refine zr 20 22 hH ?_;refine zr 21 23 hH ?_;refine zr 22 24 hH ?_;refine zr 23 25 hH ?_
  try simp only[zq]
  refine zqt 24 (some 26) ?v25 rfl rfl ?c25 hH ?r25
  case c25=>(intro w' _;go_simp;(try rw[HM.out]);(try with_reducible rfl))
  try simp only[zq]
  refine zrd 25 (λK hK=>?_);go_simp;refine(H0.out.drew.does (λOm h=>HZ.out▸Me.jm h r.t r.v r.wc z HWZ.out HL.out)).mono ?_;rintro e w2 ⟨rfl,hy⟩;refine hK.out _ _ (⟨hy.cell 0 (ptr b.B) zf,hy.shared 18 (ptr b.mb) zg,hy.cell 1 (.int .i64 r.t) zf,hy.cell 8 (.int .i64 r.v) zf,hy.cell 36 (.int .u64 r.wc) zf⟩) (λhH=>?_);clear hK K;have H2:=hid hy;clear hy H0
  try simp only[zq]
  refine zr 26 28 hH ?_
  try simp only[zq]
  refine wpAnyH_done zk ?_ _;clear hH;go_wp2_with fail;refine(aB H2.out .count _ rfl).mono ?_;rintro e w4 ⟨rfl,hy⟩;have H4:=hid hy;clear hy;go_wp2_with fail;go_end0;exact⟨rfl,H4.out⟩
 ·rw[show rq S r=eE (fG S r r.v r.wc z) r by unfold rq;rw[hz,I4];rfl];have HZ:Hid (ay S.ms r.v r.wc=true):=hz;clear hz I4;clear H hr hF he;go_in;go_wp2_with fail;refine wp_region_held_drew (S:=λw'=>w'.cell? ⟨b.g,0,none⟩=some (ptr b.B)/\w'.cell? ⟨b.B,18,none⟩=some (ptr b.mb)/\w'.cell? ⟨b.g,1,none⟩=some (.int .i64 r.t)/\w'.cell? ⟨b.g,8,none⟩=some (.int .i64 r.v)/\w'.cell? ⟨b.g,36,none⟩=some (.int .u64 r.wc)) zk (⟨H0.out.drew.cell 0 (ptr b.B) zf,H0.out.drew.shared 18 (ptr b.mb) zg,H0.out.drew.cell 1 (.int .i64 r.t) zf,H0.out.drew.cell 8 (.int .i64 r.v) zf,H0.out.drew.cell 36 (.int .u64 r.wc) zf⟩) (λhH=>?_);refine zr 0 2 hH ?_;refine zr 1 3 hH ?_;refine zr 2 4 hH ?_;refine zr 3 5 hH ?_;refine zr 4 6 hH ?_;refine zr 5 7 hH ?_;refine zr 6 8 hH ?_;refine zr 7 9 hH ?_;refine zr 8 10 hH ?_;refine zr 9 11 hH ?_;refine zr 10 12 hH ?_;refine zr 11 13 hH ?_;refine zr 12 14 hH ?_;refine zr 13 15 hH ?_;refine zr 14 16 hH ?_;refine zr 15 17 hH ?_;refine zr 16 18 hH ?_;refine zr 17 19 hH ?_;refine zr 18 20 hH ?_;refine zr 19 21 hH ?_;refine zr 20 22 hH ?_;refine zr 21 23 hH ?_;refine zr 22 24 hH ?_;refine zr 23 25 hH ?_
  try simp only[zq]
  refine zqt 24 (some 26) ?v51 rfl rfl ?c51 hH ?r51
  case c51=>(intro w' _;go_simp;(try rw[HM.out]);(try with_reducible rfl))
  try simp only[zq]
  refine zrd 25 (λK hK=>?_);go_simp;refine(H0.out.drew.does (λOm h=>HZ.out▸Me.jm h r.t r.v r.wc z HWZ.out HL.out)).mono ?_;rintro e w2 ⟨rfl,hy⟩;refine hK.out _ _ (⟨hy.cell 0 (ptr b.B) zf,hy.shared 18 (ptr b.mb) zg,hy.cell 1 (.int .i64 r.t) zf,hy.cell 8 (.int .i64 r.v) zf,hy.cell 36 (.int .u64 r.wc) zf⟩) (λhH=>?_);clear hK K;have H2:=hid hy;clear hy H0
  try simp only[zq]
  refine zr 26 28 hH ?_
  try simp only[zq]
  refine wpAnyH_done zk ?_ _;clear hH;go_wp2_with fail;refine(sM H2.out ((HR.out.sw r.v r.wc z).mono zo)).mono ?_;rintro e w4 ⟨rfl,hy⟩;have H4:=hid hy;clear hy;go_wp2_with fail;go_end0;exact⟨rfl,H4.out⟩
theorem Bp(H:Y b S r W)(hr:Rm 9 S)(hF:Fit b.C S r)(he:Env b.w0):Calls Tryz.prog 72 #[ptr b.g] W (Yd b U ((jW S r).1) ((jW S r).2)):=by
 have HR:=hid hr;have HF:=hid hF;have HE:=hid he;have H0:=hid H;have Gy:Hid (cG (js r.wg r.z)=Ga.later (cG r.wg) r.z):=(wG (uy hF.wg r.z)).2.1;have VE:=hid (Dg hF.wg r.z);have N7:Hid (∀W,Env W->Calls Tryz.prog 110 #[.int .u64 r.wg,.int .i64 r.z] W λe w'=>e = .returned (.int .u64 (js r.wg r.z))/\Below W.heap.size W w'):=λW he=>Te hF.wg r.z hF.z.1 hF.z.2 W he;have HUN:Hid (∀W,Env W->Calls Tryz.prog 46 #[.int .u64 (js r.wg r.z)] W λe w'=>e = .returned (.agg #[.int .i64 (vG (js r.wg r.z)),.int .i64 (kG (js r.wg r.z)),.int .i64 (Ga.later (cG r.wg) r.z)])/\Below W.heap.size W w'):=λW he=>Gy.out▸nR VE.out W he
 cases hz:ay S.ms 0 r.wg
 ·rw[show jW S r=(fG S r 0 r.wg (js r.wg r.z),goto r .readClock) by unfold jW;rw[hz];rfl];have HZ:Hid (ay S.ms 0 r.wg=false):=hz;clear hz Gy;generalize js r.wg r.z=now at *;generalize Ga.later (cG r.wg) r.z=nc at *;generalize vG now=nv at *;generalize kG now=nk at *;clear H hr hF he;go_in;go_wp2_with fail;refine wp_region_held_drew (S:=λw'=>w'.cell? ⟨b.g,35,none⟩=some (.int .u64 r.wg)/\w'.cell? ⟨b.g,10,none⟩=some (.int .i64 r.z)) zk (⟨H0.out.drew.cell 35 (.int .u64 r.wg) zf,H0.out.drew.cell 10 (.int .i64 r.z) zf⟩) (λhH=>?_);refine zr 0 3 hH ?_;refine zr 1 4 hH ?_;refine zr 2 5 hH ?_;refine zr 3 6 hH ?_;refine zr 4 7 hH ?_;refine zr 5 8 hH ?_;refine zr 6 9 hH ?_;refine zr 7 10 hH ?_
  try simp only[zq]
  refine zrd 8 (λK hK=>?_);go_simp;refine(N7.out _ (H0.out.drew.env HE.out)).mono ?_;rintro e w1 ⟨rfl,hy⟩;refine hK.out _ _ (⟨(H0.out.drew.next hy).cell 35 (.int .u64 r.wg) zf,(H0.out.drew.next hy).cell 10 (.int .i64 r.z) zf⟩) (λhH=>?_);clear hK K;have H1:=hid (H0.out.drew.next hy);clear hy H0 N7
  try simp only[zq]
  refine zr 9 2 hH ?_
  try simp only[zq]
  refine wpAnyH_done zk ?_ _;clear hH;go_wp2_with fail;have gT:=hid (cf H1.out (HR.out.mono zo) _ VE.out);rw[HZ.out]at gT;refine gT.out.mono ?_;rintro e w2 ⟨rfl,hy⟩;have H2:=hid hy;clear hy gT H1;go_wp2_with fail;refine(aB H2.out .readClock _ rfl).mono ?_;rintro e w4 ⟨rfl,hy⟩;have H4:=hid hy;clear hy;go_wp2_with fail;go_end0;exact⟨rfl,H4.out⟩
 ·rw[show jW S r=jJ (say (fG S r 0 r.wg (js r.wg r.z)) r 5 k0 0 r.z) { r with n:=Ga.later (cG r.wg) r.z } by unfold jW;rw[hz];rfl];have HZ:Hid (ay S.ms 0 r.wg=true):=hz;clear hz Gy;generalize js r.wg r.z=now at *;generalize Ga.later (cG r.wg) r.z=nc at *;generalize vG now=nv at *;generalize kG now=nk at *;clear H hr hF he;go_in;go_wp2_with fail;refine wp_region_held_drew (S:=λw'=>w'.cell? ⟨b.g,35,none⟩=some (.int .u64 r.wg)/\w'.cell? ⟨b.g,10,none⟩=some (.int .i64 r.z)) zk (⟨H0.out.drew.cell 35 (.int .u64 r.wg) zf,H0.out.drew.cell 10 (.int .i64 r.z) zf⟩) (λhH=>?_);refine zr 0 3 hH ?_;refine zr 1 4 hH ?_;refine zr 2 5 hH ?_;refine zr 3 6 hH ?_;refine zr 4 7 hH ?_;refine zr 5 8 hH ?_;refine zr 6 9 hH ?_;refine zr 7 10 hH ?_
  try simp only[zq]
  refine zrd 8 (λK hK=>?_);go_simp;refine(N7.out _ (H0.out.drew.env HE.out)).mono ?_;rintro e w1 ⟨rfl,hy⟩;refine hK.out _ _ (⟨(H0.out.drew.next hy).cell 35 (.int .u64 r.wg) zf,(H0.out.drew.next hy).cell 10 (.int .i64 r.z) zf⟩) (λhH=>?_);clear hK K;have H1:=hid (H0.out.drew.next hy);clear hy H0 N7
  try simp only[zq]
  refine zr 9 2 hH ?_
  try simp only[zq]
  refine wpAnyH_done zk ?_ _;clear hH;go_wp2_with fail;have gT:=hid (cf H1.out (HR.out.mono zo) _ VE.out);rw[HZ.out]at gT;refine gT.out.mono ?_;rintro e w2 ⟨rfl,hy⟩;have H2:=hid hy;clear hy gT H1;have q0:w2.cell? ⟨b.g,10,none⟩=some (.int .i64 r.z):=H2.out.cell 10 _ zf;go_wp2_with fail;refine(jY H2.out ((HR.out.sw 0 r.wg now).mono zo) 5 0 r.z).mono ?_;rintro e w3 ⟨rfl,hy⟩;have H3:=hid hy;clear hy q0 H2;go_wp2_with fail;refine(HUN.out _ (H3.out.env HE.out)).mono ?_;rintro e w4 ⟨rfl,hy⟩;have H4:=hid (H3.out.next hy);have HS:=hid (H4.out.set (r':={ r with n:=nc }) 9 (.int .i64 nc) zf rfl rfl);have q0:=H4.out.frozen 9;have q1:w4.cell? ⟨b.g,9,none⟩=some (.int .i64 r.n):=H4.out.cell 9 _ zf;have q2:=KJ nv nk nc;clear hy H3 H4;go_wp2_with fail;refine(gD HS.out (((HR.out.sw 0 r.wg now).say ..).mono zo)).mono ?_;rintro e w5 ⟨rfl,hy⟩;have H5:=hid hy;clear hy q0 q1 q2 HS;go_wp2_with fail;go_end0;exact⟨rfl,H5.out⟩
theorem mI(H:Y b S r W):Calls Tryz.prog 74 #[ptr b.B] W (Yd b (.int .i64 (b.C.n:Int)) S r):=by
 have H0:=hid H;have x0:=H.shared 0 (.int .i64 (b.C.n:Int)) zg;clear H;go_in;go_wp2_with fail;go_ret;exact⟨rfl,H0.out⟩
theorem mJ(H:Y b S r W)(hn:b.C.n<=4096)(v:Int)(hv:0<=v/\v<=4096):Calls Tryz.prog 166 #[ptr b.B,.int .i64 v] W (Yd b (.int .i64 ((b.C.n:Int)+v)) S r):=by
 have H0:=hid H;have x0:=H.shared 0 (.int .i64 (b.C.n:Int)) zg;clear H;go_in;go_wp2_with fail;go_ret;exact⟨rfl,H0.out⟩
theorem yU(H:Y b S r W)(hr:Rm 9 S)(hF:Fit b.C S r)(he:Env b.w0):Calls Tryz.prog 164 #[ptr b.g] W (Yd b U ((jd b.C S r).1) ((jd b.C S r).2)):=by
 have HR:=hid hr;have HF:=hid hF;have HE:=hid he;have H0:=hid H;have rF:=H0.out.cell 0 (ptr b.B) zf;clear H hr hF he;go_in;go_wp2_with fail;refine(mI H0.out).mono ?_;rintro e w1 ⟨rfl,hy⟩;have H1:=hid hy;clear hy rF;go_wp2_with fail;refine(mE H1.out (HR.out.mono zo) (b.C.n:Int)).mono ?_;rintro e w2 ⟨rfl,hy⟩;have H2:=hid hy;clear hy ;go_wp2_with fail;refine(gD H2.out ((HR.out.free (b.C.n:Int)).mono zo)).mono ?_;rintro e w3 ⟨rfl,hy⟩;have H3:=hid hy;clear hy ;go_wp2_with fail;go_end0;exact⟨rfl,H3.out⟩
theorem KU(H:Y b S r W)(hr:Rm 9 S)(hF:Fit b.C S r)(he:Env b.w0):Calls Tryz.prog 79 #[ptr b.g] W (Yd b U ((sJ S r).1) ((sJ S r).2)):=by
 have HR:=hid hr;have HF:=hid hF;have HE:=hid he;have H0:=hid H;have HL:Hid (S.ms.ls.length<=1000000000000):=(hr.mono (Nat.zero_le _)).l;obtain⟨z,I4⟩:∃z,IntKind.i64.wrap (af S.ms r.z)=z:=⟨_,rfl⟩;rw[show sJ S r=jJ (say (gX S r r.z) r 7 k0 r.z z) { r with n:=z } by unfold sJ;rw[I4]];have HM:Hid (IntKind.i64.wrap (af S.ms r.z)=z):=I4;clear I4;clear H hr hF he;go_in;go_wp2_with fail;refine wp_region_held_drew (S:=λw'=>w'.cell? ⟨b.g,0,none⟩=some (ptr b.B)/\w'.cell? ⟨b.B,18,none⟩=some (ptr b.mb)/\w'.cell? ⟨b.g,1,none⟩=some (.int .i64 r.t)/\w'.cell? ⟨b.g,10,none⟩=some (.int .i64 r.z)) zk (⟨H0.out.drew.cell 0 (ptr b.B) zf,H0.out.drew.shared 18 (ptr b.mb) zg,H0.out.drew.cell 1 (.int .i64 r.t) zf,H0.out.drew.cell 10 (.int .i64 r.z) zf⟩) (λhH=>?_);refine zr 0 2 hH ?_;refine zr 1 3 hH ?_;refine zr 2 4 hH ?_;refine zr 3 5 hH ?_;refine zr 4 6 hH ?_;refine zr 5 7 hH ?_;refine zr 6 8 hH ?_;refine zr 7 9 hH ?_;refine zr 8 10 hH ?_;refine zr 9 11 hH ?_;refine zr 10 12 hH ?_;refine zr 11 13 hH ?_;refine zr 12 14 hH ?_;refine zr 13 15 hH ?_;refine zr 14 16 hH ?_;refine zr 15 17 hH ?_
 try simp only[zq]
 refine zrd 16 (λK hK=>?_);go_simp;refine(H0.out.drew.does (λOm h=>Me.my h r.t r.z HL.out)).mono ?_;rintro e w2 ⟨rfl,hy⟩;refine hK.out _ _ (⟨hy.cell 0 (ptr b.B) zf,hy.shared 18 (ptr b.mb) zg,hy.cell 1 (.int .i64 r.t) zf,hy.cell 10 (.int .i64 r.z) zf⟩) (λhH=>?_);clear hK K;have H2:=hid hy;have H3:=hid (hy.set (r':={ r with n:=z }) 9 (.int .i64 z) zf rfl rfl);clear hy H0
 try simp only[zq]
 refine zqt 17 (some 19) ?v17 rfl rfl ?c17 hH ?r17
 case c17=>(intro w' _;go_simp;(try rw[HM.out]);(try with_reducible rfl))
 try simp only[zq]
 refine zr 18 20 hH ?_;refine zr 19 21 hH ?_;refine zr 20 22 hH ?_
 try simp only[zq]
 refine zrd 21 (λK hK=>?_);have f0:=H2.out.frozen 9;have c0:=H2.out.cell 9 _ zf;go_simp;clear c0 f0;refine hK.out _ _ (⟨H3.out.cell 0 (ptr b.B) zf,H3.out.shared 18 (ptr b.mb) zg,H3.out.cell 1 (.int .i64 r.t) zf,H3.out.cell 10 (.int .i64 r.z) zf⟩) (λhH=>?_);clear hK K;obtain⟨w3,EW⟩:∃VV,w2.setCell ⟨b.g,9,none⟩ (.int .i64 z)=VV:=⟨_,rfl⟩;rw[EW]at H3 hH ⊢;clear EW H2
 try simp only[zq]
 refine wpAnyH_done zk ?_ _;clear hH;go_wp2_with fail;refine wp_region_held_drew (S:=λw'=>w'.cell? ⟨b.g,10,none⟩=some (.int .i64 r.z)/\w'.cell? ⟨b.g,9,none⟩=some (.int .i64 z)) zk (⟨H3.out.drew.cell 10 _ zf,H3.out.drew.cell 9 _ zf⟩) (λhH=>?_);refine zr 0 23 hH ?_;refine zr 1 24 hH ?_;refine zr 2 25 hH ?_;refine zr 3 26 hH ?_;refine zr 4 27 hH ?_;refine zr 5 28 hH ?_;refine zr 6 29 hH ?_;refine zr 7 30 hH ?_;refine zr 8 31 hH ?_;refine zr 9 32 hH ?_;refine zr 10 33 hH ?_
 try simp only[zq]
 refine zrd 11 (λK hK=>?_);go_simp;refine(jY H3.out.drew ((HR.out.ld r.z).mono zo) 7 r.z z).mono ?_;rintro e w4 ⟨rfl,hy⟩;refine hK.out _ _ (⟨hy.cell 10 _ zf,hy.cell 9 _ zf⟩) (λhH=>?_);clear hK K;have H4:=hid hy;clear hy H3
 try simp only[zq]
 refine wpAnyH_done zk ?_ _;clear hH;go_wp2_with fail;refine(gD H4.out (((HR.out.ld r.z).say ..).mono zo)).mono ?_;rintro e w5 ⟨rfl,hy⟩;have H5:=hid hy;clear hy H4;go_wp2_with fail;go_end0;exact⟨rfl,H5.out⟩
theorem Gz(H:Y b S r W)(hr:Rm 9 S)(hF:Fit b.C S r)(he:Env b.w0):Calls Tryz.prog 76 #[ptr b.g] W (Yd b U ((gH b.C S r).1) ((gH b.C S r).2)):=by
 have HR:=hid hr;have HF:=hid hF;have HE:=hid he;have H0:=hid H
 have HQ:Hid ((dw b.C S r).q=r.q):=by show _=_;rw[ES]
 by_cases hz:r.q=4
 ·rw[show(gH b.C S r).1=gX (n8 b.C S r 5) (dw b.C S r) (dw b.C S r).x from rfl,show(gH b.C S r).2=goto (CB (n8 b.C S r 5) (dw b.C S r)) .kill by unfold gH;rw[if_pos hz]]
  have HZ:Hid (((dw b.C S r).q==4)=true):=by show _=_;rw[HQ.out];simpa using hz
  clear hz;clear H hr hF he;go_in;go_wp2_with fail;refine(iW H0.out (HR.out.mono zo) HF.out.k).mono ?_;rintro e w1 ⟨rfl,hy⟩;have H1:=hid hy;clear hy ;go_wp2_with fail;refine(gL H1.out ((HR.out.to (C:=b.C) 5).mono zo)).mono ?_;rintro e w2 ⟨rfl,hy⟩;have H2:=hid hy;clear hy ;have q0:w2.cell? ⟨b.g,20,none⟩=some (.bool ((dw b.C S r).q==4)):=H2.out.cell 20 _ zf;rw[HZ.out]at q0;go_wp2_with fail;refine(aB H2.out .kill _ rfl).mono ?_;rintro e w3 ⟨rfl,hy⟩;have H3:=hid hy;clear hy q0;go_wp2_with fail;go_end0;exact⟨rfl,H3.out⟩
 ·rw[show(gH b.C S r).1=gX (n8 b.C S r 5) (dw b.C S r) (dw b.C S r).x from rfl,show(gH b.C S r).2=goto (CB (n8 b.C S r 5) (dw b.C S r)) .inspect by unfold gH;rw[if_neg hz]]
  have HZ:Hid (((dw b.C S r).q==4)=false):=by show _=_;rw[HQ.out];simpa using hz
  clear hz;clear H hr hF he;go_in;go_wp2_with fail;refine(iW H0.out (HR.out.mono zo) HF.out.k).mono ?_;rintro e w1 ⟨rfl,hy⟩;have H1:=hid hy;clear hy ;go_wp2_with fail;refine(gL H1.out ((HR.out.to (C:=b.C) 5).mono zo)).mono ?_;rintro e w2 ⟨rfl,hy⟩;have H2:=hid hy;clear hy ;have q0:w2.cell? ⟨b.g,20,none⟩=some (.bool ((dw b.C S r).q==4)):=H2.out.cell 20 _ zf;rw[HZ.out]at q0;go_wp2_with fail;refine(aB H2.out .inspect _ rfl).mono ?_;rintro e w3 ⟨rfl,hy⟩;have H3:=hid hy;clear hy q0;go_wp2_with fail;go_end0;exact⟨rfl,H3.out⟩
end
end Pg
end Go.Proofs.YtbhnbcadgmagpaaGreatDoor
namespace Go.Proofs.YtbhnbcadgmagpaaGreatDoor
open Go.ChangeShapes Go.WideShapes Go.ChangeAt Go.RowKit Go.aN Go.Lib
namespace Pg
open bg (Ms af bq ay aP ag L4 aH aq ai bD)
open aE (R)
open ak (Ke)
open Me (ptr)
open Tb (UW TM Fw)
section
variable {b:Bs}{W:World}{S:Sh}{r:Rn}
def Hr(a:At)(C:Cf)(w0:World):Prop:=∀{b:Bs} {W:World} {S:Sh} {r:Rn},b.C=C->b.w0=w0->r.at_=a->Y b S r W->Rm 9 S->Fit b.C S r->Calls Tryz.prog (KC r.at_) #[ptr b.g] W (Yd b U (aY b.C S r).1 (aY b.C S r).2)
theorem LM(n:Nat)(w:World):(binOp .eql 93 (pu n) .nilFunc).run Tryz.prog w = .ok (.bool false) w:=zk
theorem OA(w:World):(binOp .eql 93 .nilFunc .nilFunc).run Tryz.prog w = .ok (.bool true) w:=zk
theorem LN(n:Nat)(w:World):(binOp .neq 93 (pu n) .nilFunc).run Tryz.prog w = .ok (.bool true) w:=zk
theorem OB(w:World):(binOp .neq 93 .nilFunc .nilFunc).run Tryz.prog w = .ok (.bool false) w:=zk
theorem nU{a:At}(h:a ≠ .done):iB a=pu (KC a):=by cases a <;> first | rfl | exact absurd rfl h
theorem DX(a:At)(h:a ≠ .done):Enters Tryz.prog (KC a):=by
 cases a with
 | find=>exact enters_of Tryz.func70 zd rfl
 | release=>exact enters_of Tryz.func108 zd rfl
 | load=>exact enters_of Tryz.func152 zd rfl
 | judge=>exact enters_of Tryz.func206 zd rfl
 | advance=>exact enters_of Tryz.func259 zd rfl
 | sure=>exact enters_of Tryz.func258 zd rfl
 | look=>exact enters_of Tryz.func256 zd rfl
 | again=>exact enters_of Tryz.func67 zd rfl
 | over=>exact enters_of Tryz.func105 zd rfl
 | kill=>exact enters_of Tryz.func115 zd rfl
 | less=>exact enters_of Tryz.func171 zd rfl
 | leave=>exact enters_of Tryz.func223 zd rfl
 | absent=>exact enters_of Tryz.func106 zd rfl
 | enter=>exact enters_of Tryz.func148 zd rfl
 | unlock=>exact enters_of Tryz.func202 zd rfl
 | malformed=>exact enters_of Tryz.func64 zd rfl
 | count=>exact enters_of Tryz.func99 zd rfl
 | add=>exact enters_of Tryz.func142 zd rfl
 | readClock=>exact enters_of Tryz.func38 zd rfl
 | tick=>exact enters_of Tryz.func72 zd rfl
 | claim=>exact enters_of Tryz.func75 zd rfl
 | prepare=>exact enters_of Tryz.func114 zd rfl
 | publish=>exact enters_of Tryz.func167 zd rfl
 | disclaim=>exact enters_of Tryz.func164 zd rfl
 | stat=>exact enters_of Tryz.func79 zd rfl
 | take=>exact enters_of Tryz.func78 zd rfl
 | visit=>exact enters_of Tryz.func76 zd rfl
 | inspect=>exact enters_of Tryz.func116 zd rfl
 | finish=>exact enters_of Tryz.func172 zd rfl
 | endOp=>exact enters_of Tryz.func80 zd rfl
 | done=>exact absurd rfl h
theorem Y.lock(H:Y b S r W)(hr:Rm 0 S)(hF:Fit b.C S r)(hm:r.mu≠-1):Calls Tryz.prog 43 #[ptr b.mb,.int .i64 r.t,.int .i64 r.mu] W λe w'=>e = .returned (.bool (L4 S.ms r.t r.mu))/\Y b (aM S r) r w':=by
 unfold aM;rw[if_neg hm];exact H.does λOm h=>Me.JT h r.t r.mu hF.tt.2 hr.l
theorem Rm.locked{n:Nat}(h:Rm (n+1) S):Rm n (aM S r):=by
 unfold aM;split
 ·exact h.mono zo
 ·have:=uD S.ms r.t r.mu;exact⟨by have:=h.l;show(aH S.ms r.t r.mu).ls.length+n<=_;omega,by have:=h.f;show S.fs.length+n<=_;omega,by have:=h.p;show S.pts.length+n<=_;omega,by have:=h.w;show(aH S.ms r.t r.mu).ws.length+n<_;omega⟩
theorem Rm.called{n:Nat}(h:Rm (n+1) S):Rm n (bB S r):=by
 unfold bB;split
 ·exact h.mono zo
 ·exact h.say ..
theorem Fit.called(hF:Fit b.C S r):Fit b.C (bB (aM S r) r) { r with mu:=-1,ki:=true } :=
 ⟨hF.wf,hF.wg,hF.wc,hF.k,hF.p,hF.st,hF.cn,hF.cT,hF.z,λh=>by
  have h1:=hF.mr h
  have e:(aM S r).pts=S.pts:=by unfold aM;split <;> rfl
  show r.mr<(bB (aM S r) r).pts.length
  unfold bB;split
  ·rw[e];exact h1
  ·simp only[say,List.length_append,List.length_cons,List.length_nil,e];omega,hF.q,hF.tt⟩
theorem OC(hA:r.at_ ≠ .done->Hr r.at_ b.C b.w0)(H:Y b S r W)(hr:Rm 12 S)(hF:Fit b.C S r)(he:Env b.w0):Calls Tryz.prog 14 #[ptr b.g] W (Yd b (.bool (mD S r)) (Lf b.C S r).1 (Lf b.C S r).2):=by
 have HR:=hid hr;have HF:=hid hF;have HE:=hid he;have H0:=hid H;have HA:Hid (r.at_ ≠ .done->Hr r.at_ b.C b.w0):=hA;clear hA;by_cases hd:r.at_ = .done
 ·have hc:mD S r=false:=by unfold mD;rw[decide_eq_false (by simpa using hd)];rfl
  rw[show Lf b.C S r=(S,r) by unfold Lf;rw[hc];rfl,hc];have y0:=H.cell 3 (iB r.at_) zf;rw[show iB r.at_ = .nilFunc by rw[hd];rfl]at y0;have q0:=λw=>OA w;clear H hr hF he hd hc;go_in;go_wp2_with fail;go_ret;exact⟨rfl,H0.out⟩
 ·have y0:=H.cell 3 (iB r.at_) zf;rw[nU hd]at y0;have HD:=hid hd;obtain⟨fn,hfn⟩:∃n,KC r.at_=n:=⟨_,rfl⟩;have P0:=hid hfn;rw[hfn]at y0;have q0:=λw=>LM fn w;have Fj:Hid (Enters Tryz.prog fn):=hfn▸DX r.at_ hd;have WE:Hid (Rm 11 (aM S r)):=hr.locked;have M7:Hid (Rm 10 (bB (aM S r) r)):=WE.out.called;have UT:=hid hF.called;clear hfn;by_cases hm:r.mu=-1
  ·have hc:mD S r=true:=by unfold mD;rw[decide_eq_true hd,show(r.mu == -1)=true by simpa using hm];rfl
   rw[show Lf b.C S r=aY b.C (bB (aM S r) r) { r with mu:=-1,ki:=true } by unfold Lf;rw[hc,if_pos rfl],hc];clear hc
   cases oV:r.ki
   ·have DY:Hid (r.ki=false):=oV
    have zQ:Hid (bB (aM S r) r=say (aM S r) { r with mu:=-1,ki:=true } 1 k0 0 0):=by show _=_;unfold bB;rw[oV];rfl
    clear oV
    have OD:Hid ((r.mu == -1)=true):=by show _=_;simpa using hm
    have PU:Hid (Y b (aM S r) r W):=by unfold aM;rw[if_pos hm];exact H0.out
    clear hm H hr hF he hd;go_in;go_wp2_with fail;refine wp_region_held_drew (S:=λw'=>w'.cell? ⟨b.g,4,none⟩=some (.int .i64 r.mu)/\w'.cell? ⟨b.g,0,none⟩=some (ptr b.B)/\w'.cell? ⟨b.B,18,none⟩=some (ptr b.mb)/\w'.cell? ⟨b.g,1,none⟩=some (.int .i64 r.t)) zk (⟨H0.out.drew.cell 4 (.int .i64 r.mu) zf,H0.out.drew.cell 0 (ptr b.B) zf,H0.out.drew.shared 18 (ptr b.mb) zg,H0.out.drew.cell 1 (.int .i64 r.t) zf⟩) (λhH=>?_);refine zr 0 12 hH ?_
    try simp only[zq]
    refine zr 1 13 hH ?_
    try simp only[zq]
    refine zr 2 14 hH ?_
    try simp only[zq]
    refine zr 3 15 hH ?_
    try simp only[zq]
    refine zqt 4 (some 16) ?v5 rfl rfl ?c5 hH ?r5
    case c5=>(intro w' hS;have lX:=OD.out;have F_:decide (r.mu=-1)=true:=(by simpa using lX);have UU:(r.mu != -1)=false:=(by simpa using lX);go_simp;(try with_reducible rfl))
    try simp only[zq]
    refine zr 5 17 hH ?_
    try simp only[zq]
    refine zqp 6 (some 18) rfl rfl hH ?_
    try simp only[zq]
    refine zqp 7 (some 19) rfl rfl hH ?_
    try simp only[zq]
    refine zqp 8 (some 20) rfl rfl hH ?_
    try simp only[zq]
    refine zqp 9 (some 21) rfl rfl hH ?_
    try simp only[zq]
    refine zqp 10 (some 22) rfl rfl hH ?_
    try simp only[zq]
    refine zqp 11 (some 23) rfl rfl hH ?_
    try simp only[zq]
    refine zqp 12 (some 24) rfl rfl hH ?_
    try simp only[zq]
    refine zqp 13 (some 25) rfl rfl hH ?_
    try simp only[zq]
    refine zqp 14 (some 26) rfl rfl hH ?_
    try simp only[zq]
    refine zqp 15 (some 27) rfl rfl hH ?_
    try simp only[zq]
    refine zqp 16 (some 28) rfl rfl hH ?_
    try simp only[zq]
    refine zqp 17 (some 29) rfl rfl hH ?_
    try simp only[zq]
    refine zqp 18 (some 30) rfl rfl hH ?_
    try simp only[zq]
    refine zqp 19 (some 31) rfl rfl hH ?_
    try simp only[zq]
    refine zqp 20 (some 32) rfl rfl hH ?_
    try simp only[zq]
    refine zqp 21 (some 33) rfl rfl hH ?_
    try simp only[zq]
    refine zqp 22 (some 34) rfl rfl hH ?_
    try simp only[zq]
    refine zr 23 35 hH ?_
    try simp only[zq]
    refine wpAnyH_done zk ?_ _;clear hH q0 y0;obtain⟨w1,hw1⟩:∃VV,W.drew=VV:=⟨_,rfl⟩;have H1:Hid (Y b (aM S r) r w1):=hw1▸hid PU.out.drew;rw[hw1];clear hw1;have HS:=hid (H1.out.set (r':={ r with mu:=-1 }) 4 (.int .i64 (-1)) zf rfl rfl);have f0:=H1.out.frozen 4;have c0:=H1.out.cell 4 (.int .i64 r.mu) zf;have c1:(w1.setCell ⟨b.g,4,none⟩ (.int .i64 (-1))).cell? ⟨b.g,5,none⟩=some (.bool r.ki):=HS.out.cell 5 _ zf;rw[DY.out]at c1;clear H1;have P3:=hid (HS.out.set (r':={ r with mu:=-1,ki:=true }) 5 (.bool true) zf rfl rfl);have f1:=HS.out.frozen 5;clear HS;go_wp2_with fail;refine(jY P3.out (WE.out.mono zo) 1 0 0).mono ?_;rintro e w2 ⟨rfl,hy⟩
    have H2:Hid (Y b (bB (aM S r) r) { r with mu:=-1,ki:=true } w2):=by rw[zQ.out];exact hy
    clear hy f0 c0 c1 f1 P3;have c2:w2.cell? ⟨b.g,3,none⟩=some (iB r.at_):=H2.out.cell 3 _ zf;rw[nU HD.out,P0.out]at c2;have eg:=Fj.out;unfold Enters at eg;go_wp2_with fail;have DZ:=hid (HA.out HD.out (r:={ r with mu:=-1,ki:=true }) rfl rfl rfl H2.out (M7.out.mono zo) UT.out);rw[show KC ({ r with mu:=-1,ki:=true }:Rn).at_=fn from P0.out]at DZ;refine DZ.out.mono ?_;rintro e w3 ⟨rfl,hy⟩;have H3:=hid hy;clear hy c2 DZ
    (try clear f0 c0 c1 HS)
    go_wp2_with fail;go_ret;exact⟨rfl,H3.out⟩
   ·have DY:Hid (r.ki=true):=oV
    have zQ:Hid (aM S r=bB (aM S r) r):=by show _=_;unfold bB;rw[oV];rfl
    have WG:Hid (({ r with mu:=-1 }:Rn) = { r with mu:=-1,ki:=true }):=by show _=_;rw[← oV]
    clear oV
    have OD:Hid ((r.mu == -1)=true):=by show _=_;simpa using hm
    have PU:Hid (Y b (aM S r) r W):=by unfold aM;rw[if_pos hm];exact H0.out
    clear hm H hr hF he hd;go_in;go_wp2_with fail;refine wp_region_held_drew (S:=λw'=>w'.cell? ⟨b.g,4,none⟩=some (.int .i64 r.mu)/\w'.cell? ⟨b.g,0,none⟩=some (ptr b.B)/\w'.cell? ⟨b.B,18,none⟩=some (ptr b.mb)/\w'.cell? ⟨b.g,1,none⟩=some (.int .i64 r.t)) zk (⟨H0.out.drew.cell 4 (.int .i64 r.mu) zf,H0.out.drew.cell 0 (ptr b.B) zf,H0.out.drew.shared 18 (ptr b.mb) zg,H0.out.drew.cell 1 (.int .i64 r.t) zf⟩) (λhH=>?_);refine zr 0 12 hH ?_
    try simp only[zq]
    refine zr 1 13 hH ?_
    try simp only[zq]
    refine zr 2 14 hH ?_
    try simp only[zq]
    refine zr 3 15 hH ?_
    try simp only[zq]
    refine zqt 4 (some 16) ?v29 rfl rfl ?c29 hH ?r29
    case c29=>(intro w' hS;have lX:=OD.out;have F_:decide (r.mu=-1)=true:=(by simpa using lX);have UU:(r.mu != -1)=false:=(by simpa using lX);go_simp;(try with_reducible rfl))
    try simp only[zq]
    refine zr 5 17 hH ?_
    try simp only[zq]
    refine zqp 6 (some 18) rfl rfl hH ?_
    try simp only[zq]
    refine zqp 7 (some 19) rfl rfl hH ?_
    try simp only[zq]
    refine zqp 8 (some 20) rfl rfl hH ?_
    try simp only[zq]
    refine zqp 9 (some 21) rfl rfl hH ?_
    try simp only[zq]
    refine zqp 10 (some 22) rfl rfl hH ?_
    try simp only[zq]
    refine zqp 11 (some 23) rfl rfl hH ?_
    try simp only[zq]
    refine zqp 12 (some 24) rfl rfl hH ?_
    try simp only[zq]
    refine zqp 13 (some 25) rfl rfl hH ?_
    try simp only[zq]
    refine zqp 14 (some 26) rfl rfl hH ?_
    try simp only[zq]
    refine zqp 15 (some 27) rfl rfl hH ?_
    try simp only[zq]
    refine zqp 16 (some 28) rfl rfl hH ?_
    try simp only[zq]
    refine zqp 17 (some 29) rfl rfl hH ?_
    try simp only[zq]
    refine zqp 18 (some 30) rfl rfl hH ?_
    try simp only[zq]
    refine zqp 19 (some 31) rfl rfl hH ?_
    try simp only[zq]
    refine zqp 20 (some 32) rfl rfl hH ?_
    try simp only[zq]
    refine zqp 21 (some 33) rfl rfl hH ?_
    try simp only[zq]
    refine zqp 22 (some 34) rfl rfl hH ?_
    try simp only[zq]
    refine zr 23 35 hH ?_
    try simp only[zq]
    refine wpAnyH_done zk ?_ _;clear hH q0 y0;obtain⟨w1,hw1⟩:∃VV,W.drew=VV:=⟨_,rfl⟩;have H1:Hid (Y b (aM S r) r w1):=hw1▸hid PU.out.drew;rw[hw1];clear hw1;have HS:=hid (H1.out.set (r':={ r with mu:=-1 }) 4 (.int .i64 (-1)) zf rfl rfl);have f0:=H1.out.frozen 4;have c0:=H1.out.cell 4 (.int .i64 r.mu) zf;have c1:(w1.setCell ⟨b.g,4,none⟩ (.int .i64 (-1))).cell? ⟨b.g,5,none⟩=some (.bool r.ki):=HS.out.cell 5 _ zf;rw[DY.out]at c1;clear H1;have c2:(w1.setCell ⟨b.g,4,none⟩ (.int .i64 (-1))).cell? ⟨b.g,3,none⟩=some (iB r.at_):=HS.out.cell 3 _ zf;rw[nU HD.out,P0.out]at c2;have eg:=Fj.out;unfold Enters at eg;go_wp2_with fail;have DZ:=hid (HA.out HD.out (r:={ r with mu:=-1,ki:=true }) rfl rfl rfl (zQ.out▸WG.out▸HS.out) (M7.out.mono zo) UT.out);rw[show KC ({ r with mu:=-1,ki:=true }:Rn).at_=fn from P0.out]at DZ;refine DZ.out.mono ?_;rintro e w3 ⟨rfl,hy⟩;have H3:=hid hy;clear hy c2 DZ
    (try clear f0 c0 c1 HS)
    go_wp2_with fail;go_ret;exact⟨rfl,H3.out⟩
  ·cases hl:L4 S.ms r.t r.mu
   ·have hc:mD S r=false:=by unfold mD;rw[hl,show(r.mu == -1)=false by simpa using hm];simp
    rw[show Lf b.C S r=(S,r) by unfold Lf;rw[hc];rfl,hc]
    have OD:Hid ((r.mu == -1)=false):=by show _=_;simpa using hm
    have PO:Hid (∀W,Y b S r W->Calls Tryz.prog 43 #[ptr b.mb,.int .i64 r.t,.int .i64 r.mu] W λe w'=>e = .returned (.bool false)/\Y b S r w'):=λW h=>by
     have:=h.lock (hr.mono zo) hF hm;rw[hl,show aM S r=S by unfold aM;rw[if_neg hm,show aH S.ms r.t r.mu=S.ms by unfold aH;rw[hl];rfl]]at this;exact this
    clear hm hl hc H hr hF he hd;go_in;go_wp2_with fail;refine wp_region_held_drew (S:=λw'=>w'.cell? ⟨b.g,4,none⟩=some (.int .i64 r.mu)/\w'.cell? ⟨b.g,0,none⟩=some (ptr b.B)/\w'.cell? ⟨b.B,18,none⟩=some (ptr b.mb)/\w'.cell? ⟨b.g,1,none⟩=some (.int .i64 r.t)) zk (⟨H0.out.drew.cell 4 (.int .i64 r.mu) zf,H0.out.drew.cell 0 (ptr b.B) zf,H0.out.drew.shared 18 (ptr b.mb) zg,H0.out.drew.cell 1 (.int .i64 r.t) zf⟩) (λhH=>?_);refine zr 0 12 hH ?_
    try simp only[zq]
    refine zr 1 13 hH ?_
    try simp only[zq]
    refine zr 2 14 hH ?_
    try simp only[zq]
    refine zr 3 15 hH ?_
    try simp only[zq]
    refine zqt 4 (some 16) ?v53 rfl rfl ?c53 hH ?r53
    case c53=>(intro w' hS;have lX:=OD.out;have F_:decide (r.mu=-1)=false:=(by simpa using lX);have UU:(r.mu != -1)=true:=(by simpa using lX);go_simp;(try with_reducible rfl))
    try simp only[zq]
    refine zr 5 17 hH ?_
    try simp only[zq]
    refine zr 6 18 hH ?_
    try simp only[zq]
    refine zr 7 19 hH ?_
    try simp only[zq]
    refine zr 8 20 hH ?_
    try simp only[zq]
    refine zr 9 21 hH ?_
    try simp only[zq]
    refine zr 10 22 hH ?_
    try simp only[zq]
    refine zr 11 23 hH ?_
    try simp only[zq]
    refine zr 12 24 hH ?_
    try simp only[zq]
    refine zr 13 25 hH ?_
    try simp only[zq]
    refine zr 14 26 hH ?_
    try simp only[zq]
    refine zr 15 27 hH ?_
    try simp only[zq]
    refine zr 16 28 hH ?_
    try simp only[zq]
    refine zr 17 29 hH ?_
    try simp only[zq]
    refine zr 18 30 hH ?_
    try simp only[zq]
    refine zr 19 31 hH ?_
    try simp only[zq]
    refine zr 20 32 hH ?_
    try simp only[zq]
    refine zrd 21 (λK hK=>?_);go_simp;refine(PO.out _ H0.out.drew).mono ?_;rintro e w1 ⟨rfl,hy⟩;refine hK.out _ _ (⟨hy.cell 4 (.int .i64 r.mu) zf,hy.cell 0 (ptr b.B) zf,hy.shared 18 (ptr b.mb) zg,hy.cell 1 (.int .i64 r.t) zf⟩) (λhH=>?_);clear hK K;have H1:=hid hy;clear hy
    try simp only[zq]
    refine zr 22 34 hH ?_
    try simp only[zq]
    refine zr 23 35 hH ?_
    try simp only[zq]
    refine wpAnyH_done zk ?_ _;clear hH q0 y0;go_wp2_with fail;go_ret;exact⟨rfl,H1.out⟩
   ·have hc:mD S r=true:=by unfold mD;rw[decide_eq_true hd,hl,Bool.or_true];rfl
    rw[show Lf b.C S r=aY b.C (bB (aM S r) r) { r with mu:=-1,ki:=true } by unfold Lf;rw[hc,if_pos rfl],hc];clear hc
    cases oV:r.ki
    ·have DY:Hid (r.ki=false):=oV
     have zQ:Hid (bB (aM S r) r=say (aM S r) { r with mu:=-1,ki:=true } 1 k0 0 0):=by show _=_;unfold bB;rw[oV];rfl
     clear oV
     have OD:Hid ((r.mu == -1)=false):=by show _=_;simpa using hm
     have PO:Hid (∀W,Y b S r W->Calls Tryz.prog 43 #[ptr b.mb,.int .i64 r.t,.int .i64 r.mu] W λe w'=>e = .returned (.bool true)/\Y b (aM S r) r w'):=λW h=>hl▸h.lock (hr.mono zo) hF hm;clear hm hl H hr hF he hd;go_in;go_wp2_with fail;refine wp_region_held_drew (S:=λw'=>w'.cell? ⟨b.g,4,none⟩=some (.int .i64 r.mu)/\w'.cell? ⟨b.g,0,none⟩=some (ptr b.B)/\w'.cell? ⟨b.B,18,none⟩=some (ptr b.mb)/\w'.cell? ⟨b.g,1,none⟩=some (.int .i64 r.t)) zk (⟨H0.out.drew.cell 4 (.int .i64 r.mu) zf,H0.out.drew.cell 0 (ptr b.B) zf,H0.out.drew.shared 18 (ptr b.mb) zg,H0.out.drew.cell 1 (.int .i64 r.t) zf⟩) (λhH=>?_);refine zr 0 12 hH ?_
     try simp only[zq]
     refine zr 1 13 hH ?_
     try simp only[zq]
     refine zr 2 14 hH ?_
     try simp only[zq]
     refine zr 3 15 hH ?_
     try simp only[zq]
     refine zqt 4 (some 16) ?v76 rfl rfl ?c76 hH ?r76
     case c76=>(intro w' hS;have lX:=OD.out;have F_:decide (r.mu=-1)=false:=(by simpa using lX);have UU:(r.mu != -1)=true:=(by simpa using lX);go_simp;(try with_reducible rfl))
     try simp only[zq]
     refine zr 5 17 hH ?_
     try simp only[zq]
     refine zr 6 18 hH ?_
     try simp only[zq]
     refine zr 7 19 hH ?_
     try simp only[zq]
     refine zr 8 20 hH ?_
     try simp only[zq]
     refine zr 9 21 hH ?_
     try simp only[zq]
     refine zr 10 22 hH ?_
     try simp only[zq]
     refine zr 11 23 hH ?_
     try simp only[zq]
     refine zr 12 24 hH ?_
     try simp only[zq]
     refine zr 13 25 hH ?_
     try simp only[zq]
     refine zr 14 26 hH ?_
     try simp only[zq]
     refine zr 15 27 hH ?_
     try simp only[zq]
     refine zr 16 28 hH ?_
     try simp only[zq]
     refine zr 17 29 hH ?_
     try simp only[zq]
     refine zr 18 30 hH ?_
     try simp only[zq]
     refine zr 19 31 hH ?_
     try simp only[zq]
     refine zr 20 32 hH ?_
     try simp only[zq]
     refine zrd 21 (λK hK=>?_);go_simp;refine(PO.out _ H0.out.drew).mono ?_;rintro e w1 ⟨rfl,hy⟩;refine hK.out _ _ (⟨hy.cell 4 (.int .i64 r.mu) zf,hy.cell 0 (ptr b.B) zf,hy.shared 18 (ptr b.mb) zg,hy.cell 1 (.int .i64 r.t) zf⟩) (λhH=>?_);clear hK K;have H1:=hid hy;clear hy
     try simp only[zq]
     refine zr 22 34 hH ?_
     try simp only[zq]
     refine zr 23 35 hH ?_
     try simp only[zq]
     refine wpAnyH_done zk ?_ _;clear hH q0 y0;have HS:=hid (H1.out.set (r':={ r with mu:=-1 }) 4 (.int .i64 (-1)) zf rfl rfl);have f0:=H1.out.frozen 4;have c0:=H1.out.cell 4 (.int .i64 r.mu) zf;have c1:(w1.setCell ⟨b.g,4,none⟩ (.int .i64 (-1))).cell? ⟨b.g,5,none⟩=some (.bool r.ki):=HS.out.cell 5 _ zf;rw[DY.out]at c1;clear H1;have P3:=hid (HS.out.set (r':={ r with mu:=-1,ki:=true }) 5 (.bool true) zf rfl rfl);have f1:=HS.out.frozen 5;clear HS;go_wp2_with fail;refine(jY P3.out (WE.out.mono zo) 1 0 0).mono ?_;rintro e w2 ⟨rfl,hy⟩
     have H2:Hid (Y b (bB (aM S r) r) { r with mu:=-1,ki:=true } w2):=by rw[zQ.out];exact hy
     clear hy f0 c0 c1 f1 P3;have c2:w2.cell? ⟨b.g,3,none⟩=some (iB r.at_):=H2.out.cell 3 _ zf;rw[nU HD.out,P0.out]at c2;have eg:=Fj.out;unfold Enters at eg;go_wp2_with fail;have DZ:=hid (HA.out HD.out (r:={ r with mu:=-1,ki:=true }) rfl rfl rfl H2.out (M7.out.mono zo) UT.out);rw[show KC ({ r with mu:=-1,ki:=true }:Rn).at_=fn from P0.out]at DZ;refine DZ.out.mono ?_;rintro e w3 ⟨rfl,hy⟩;have H3:=hid hy;clear hy c2 DZ
     (try clear f0 c0 c1 HS)
     go_wp2_with fail;go_ret;exact⟨rfl,H3.out⟩
    ·have DY:Hid (r.ki=true):=oV
     have zQ:Hid (aM S r=bB (aM S r) r):=by show _=_;unfold bB;rw[oV];rfl
     have WG:Hid (({ r with mu:=-1 }:Rn) = { r with mu:=-1,ki:=true }):=by show _=_;rw[← oV]
     clear oV
     have OD:Hid ((r.mu == -1)=false):=by show _=_;simpa using hm
     have PO:Hid (∀W,Y b S r W->Calls Tryz.prog 43 #[ptr b.mb,.int .i64 r.t,.int .i64 r.mu] W λe w'=>e = .returned (.bool true)/\Y b (aM S r) r w'):=λW h=>hl▸h.lock (hr.mono zo) hF hm;clear hm hl H hr hF he hd;go_in;go_wp2_with fail;refine wp_region_held_drew (S:=λw'=>w'.cell? ⟨b.g,4,none⟩=some (.int .i64 r.mu)/\w'.cell? ⟨b.g,0,none⟩=some (ptr b.B)/\w'.cell? ⟨b.B,18,none⟩=some (ptr b.mb)/\w'.cell? ⟨b.g,1,none⟩=some (.int .i64 r.t)) zk (⟨H0.out.drew.cell 4 (.int .i64 r.mu) zf,H0.out.drew.cell 0 (ptr b.B) zf,H0.out.drew.shared 18 (ptr b.mb) zg,H0.out.drew.cell 1 (.int .i64 r.t) zf⟩) (λhH=>?_);refine zr 0 12 hH ?_
     try simp only[zq]
     refine zr 1 13 hH ?_
     try simp only[zq]
     refine zr 2 14 hH ?_
     try simp only[zq]
     refine zr 3 15 hH ?_
     try simp only[zq]
     refine zqt 4 (some 16) ?v99 rfl rfl ?c99 hH ?r99
     case c99=>(intro w' hS;have lX:=OD.out;have F_:decide (r.mu=-1)=false:=(by simpa using lX);have UU:(r.mu != -1)=true:=(by simpa using lX);go_simp;(try with_reducible rfl))
     try simp only[zq]
     refine zr 5 17 hH ?_
     try simp only[zq]
     refine zr 6 18 hH ?_
     try simp only[zq]
     refine zr 7 19 hH ?_
     try simp only[zq]
     refine zr 8 20 hH ?_
     try simp only[zq]
     refine zr 9 21 hH ?_
     try simp only[zq]
     refine zr 10 22 hH ?_
     try simp only[zq]
     refine zr 11 23 hH ?_
     try simp only[zq]
     refine zr 12 24 hH ?_
     try simp only[zq]
     refine zr 13 25 hH ?_
     try simp only[zq]
     refine zr 14 26 hH ?_
     try simp only[zq]
     refine zr 15 27 hH ?_
     try simp only[zq]
     refine zr 16 28 hH ?_
     try simp only[zq]
     refine zr 17 29 hH ?_
     try simp only[zq]
     refine zr 18 30 hH ?_
     try simp only[zq]
     refine zr 19 31 hH ?_
     try simp only[zq]
     refine zr 20 32 hH ?_
     try simp only[zq]
     refine zrd 21 (λK hK=>?_);go_simp;refine(PO.out _ H0.out.drew).mono ?_;rintro e w1 ⟨rfl,hy⟩;refine hK.out _ _ (⟨hy.cell 4 (.int .i64 r.mu) zf,hy.cell 0 (ptr b.B) zf,hy.shared 18 (ptr b.mb) zg,hy.cell 1 (.int .i64 r.t) zf⟩) (λhH=>?_);clear hK K;have H1:=hid hy;clear hy
     try simp only[zq]
     refine zr 22 34 hH ?_
     try simp only[zq]
     refine zr 23 35 hH ?_
     try simp only[zq]
     refine wpAnyH_done zk ?_ _;clear hH q0 y0;have HS:=hid (H1.out.set (r':={ r with mu:=-1 }) 4 (.int .i64 (-1)) zf rfl rfl);have f0:=H1.out.frozen 4;have c0:=H1.out.cell 4 (.int .i64 r.mu) zf;have c1:(w1.setCell ⟨b.g,4,none⟩ (.int .i64 (-1))).cell? ⟨b.g,5,none⟩=some (.bool r.ki):=HS.out.cell 5 _ zf;rw[DY.out]at c1;clear H1;have c2:(w1.setCell ⟨b.g,4,none⟩ (.int .i64 (-1))).cell? ⟨b.g,3,none⟩=some (iB r.at_):=HS.out.cell 3 _ zf;rw[nU HD.out,P0.out]at c2;have eg:=Fj.out;unfold Enters at eg;go_wp2_with fail;have DZ:=hid (HA.out HD.out (r:={ r with mu:=-1,ki:=true }) rfl rfl rfl (zQ.out▸WG.out▸HS.out) (M7.out.mono zo) UT.out);rw[show KC ({ r with mu:=-1,ki:=true }:Rn).at_=fn from P0.out]at DZ;refine DZ.out.mono ?_;rintro e w3 ⟨rfl,hy⟩;have H3:=hid hy;clear hy c2 DZ
     (try clear f0 c0 c1 HS)
     go_wp2_with fail;go_ret;exact⟨rfl,H3.out⟩
theorem B9(H:Y b S r W):Calls Tryz.prog 18 #[ptr b.g] W (Yd b (.bool (dS S r)) S r):=by
 have H0:=hid H;by_cases hd:r.at_ = .done
 ·have hb:dS S r=false:=by unfold dS;rw[decide_eq_false (by simpa using hd)];rfl
  rw[hb];have y0:=H.drew.cell 3 (iB r.at_) zf;rw[show iB r.at_ = .nilFunc by rw[hd];rfl]at y0;clear H hb hd;go_in;go_wp2_with fail;refine wp_region_held_drew (S:=λw'=>w'.cell? ⟨b.g,3,none⟩=some .nilFunc) zk (y0) (λhH=>?_);refine zr 0 3 hH ?_
  try simp only[zq]
  refine zr 1 4 hH ?_
  try simp only[zq]
  refine zr 2 5 hH ?_
  try simp only[zq]
  refine zr 3 6 hH ?_
  try simp only[zq]
  refine zr 4 7 hH ?_
  try simp only[zq]
  refine zr 5 8 hH ?_
  try simp only[zq]
  refine zr 6 9 hH ?_
  try simp only[zq]
  refine zqt 7 (some 10) ?v8 rfl rfl ?c8 hH ?r8
  case c8=>(intro w' hS;have q:=OB w';go_simp;(try with_reducible rfl))
  try simp only[zq]
  refine zr 8 11 hH ?_
  try simp only[zq]
  refine zr 9 12 hH ?_
  try simp only[zq]
  refine zqp 10 (some 13) rfl rfl hH ?_
  try simp only[zq]
  refine zqp 11 (some 14) rfl rfl hH ?_
  try simp only[zq]
  refine zqp 12 (some 15) rfl rfl hH ?_
  try simp only[zq]
  refine zqp 13 (some 16) rfl rfl hH ?_
  try simp only[zq]
  refine zqp 14 (some 17) rfl rfl hH ?_
  try simp only[zq]
  refine zqp 15 (some 18) rfl rfl hH ?_
  try simp only[zq]
  refine zqp 16 (some 19) rfl rfl hH ?_
  try simp only[zq]
  refine zqp 17 (some 20) rfl rfl hH ?_
  try simp only[zq]
  refine zqp 18 (some 21) rfl rfl hH ?_
  try simp only[zq]
  refine zqp 19 (some 22) rfl rfl hH ?_
  try simp only[zq]
  refine zqp 20 (some 23) rfl rfl hH ?_
  try simp only[zq]
  refine zqp 21 (some 24) rfl rfl hH ?_
  try simp only[zq]
  refine zqp 22 (some 25) rfl rfl hH ?_
  try simp only[zq]
  refine zr 23 26 hH ?_
  try simp only[zq]
  refine zr 24 2 hH ?_
  try simp only[zq]
  refine wpAnyH_done zk ?_ _;clear hH y0;go_wp2_with fail;go_ret;exact⟨rfl,H0.out.drew⟩
 ·have hb:dS S r = !(ag S.ms r.mu == -1):=by unfold dS;rw[decide_eq_true hd];rfl
  rw[hb];obtain⟨hv,QD⟩:∃z,ag S.ms r.mu=z:=⟨_,rfl⟩;obtain⟨fn,hfn⟩:∃n,KC r.at_=n:=⟨_,rfl⟩
  have ZZ:Hid (∀W,Y b S r W->Calls Tryz.prog 48 #[ptr b.mb,.int .i64 r.mu] W λe w'=>e = .returned (.int .i64 hv)/\W=w'):=λW h=>by
   obtain⟨Om,Ot,K,pv,lv,kv,h⟩:=h;exact QD▸Me.ua h.mem r.mu
  have y0:=H.drew.cell 3 (iB r.at_) zf;rw[nU hd,hfn]at y0;rw[QD];clear H hb hd QD hfn;go_in;go_wp2_with fail;refine wp_region_held_drew (S:=λw'=>w'.cell? ⟨b.g,3,none⟩=some (pu fn)/\w'.cell? ⟨b.g,0,none⟩=some (ptr b.B)/\w'.cell? ⟨b.B,18,none⟩=some (ptr b.mb)/\w'.cell? ⟨b.g,4,none⟩=some (.int .i64 r.mu)) zk (⟨y0,H0.out.drew.cell 0 (ptr b.B) zf,H0.out.drew.shared 18 (ptr b.mb) zg,H0.out.drew.cell 4 (.int .i64 r.mu) zf⟩) (λhH=>?_);refine zr 0 3 hH ?_
  try simp only[zq]
  refine zr 1 4 hH ?_
  try simp only[zq]
  refine zr 2 5 hH ?_
  try simp only[zq]
  refine zr 3 6 hH ?_
  try simp only[zq]
  refine zr 4 7 hH ?_
  try simp only[zq]
  refine zr 5 8 hH ?_
  try simp only[zq]
  refine zr 6 9 hH ?_
  try simp only[zq]
  refine zqt 7 (some 10) ?v33 rfl rfl ?c33 hH ?r33
  case c33=>(intro w' hS;have q:=LN fn w';go_simp;(try with_reducible rfl))
  try simp only[zq]
  refine zr 8 11 hH ?_
  try simp only[zq]
  refine zr 9 12 hH ?_
  try simp only[zq]
  refine zr 10 13 hH ?_
  try simp only[zq]
  refine zr 11 14 hH ?_
  try simp only[zq]
  refine zr 12 15 hH ?_
  try simp only[zq]
  refine zr 13 16 hH ?_
  try simp only[zq]
  refine zr 14 17 hH ?_
  try simp only[zq]
  refine zr 15 18 hH ?_
  try simp only[zq]
  refine zr 16 19 hH ?_
  try simp only[zq]
  refine zr 17 20 hH ?_
  try simp only[zq]
  refine zr 18 21 hH ?_
  try simp only[zq]
  refine zr 19 22 hH ?_
  try simp only[zq]
  refine zr 20 23 hH ?_
  try simp only[zq]
  refine zrd 21 (λK hK=>?_);go_simp;refine(ZZ.out _ H0.out.drew).mono ?_;rintro e w1 ⟨rfl,rfl⟩;refine hK.out _ _ (hH) (λhH=>?_);clear hK K
  try simp only[zq]
  refine zr 22 25 hH ?_
  try simp only[zq]
  refine zr 23 26 hH ?_
  try simp only[zq]
  refine zr 24 2 hH ?_
  try simp only[zq]
  refine wpAnyH_done zk ?_ _;clear hH y0;go_wp2_with fail;go_ret;exact⟨rfl,H0.out.drew⟩
end
end Pg
end Go.Proofs.YtbhnbcadgmagpaaGreatDoor
namespace Go.Proofs.YtbhnbcadgmagpaaGreatDoor
open Go.ChangeShapes Go.WideShapes Go.ChangeAt Go.RowKit Go.aN Go.Lib
namespace Pg
open bg (Ms af bq ay aP ag L4 aH aq ai bD)
open aE (R)
open ak (Ke)
open Me (ptr)
open Tb (UW TM Fw)
def real(ps:List Pt):List Pt:=ps.filter λp=>decide (p.kd≠0)
theorem Hs(ps:List Pt)(p:Pt):real (ps++[p])=if p.kd≠0 then real ps++[p]else real ps:=by
 unfold real;rw[List.filter_append]
 by_cases h:p.kd=0 <;> simp[h]
theorem qM{α:Type}{l:List α}{j:Nat}{x:α}(h:l[j]? = some x):l.take (j+1)=l.take j++[x]:=by
 rw[List.take_add_one,h];rfl
theorem kf{ps:List Pt}{j:Nat}{p:Pt}(h:ps[j]? = some p)(i:Nat)(hi:i<10):(rE ps)[j*10+i]? = (Gr p)[i]?:=by
 induction ps generalizing j with
 | nil=>cases h
 | cons q ps ih =>
  cases j with
  | zero =>
   obtain rfl:=Option.some.inj h
   rw[Nat.zero_mul,Nat.zero_add]
   show(Gr q++rE ps)[i]? = _
   rw[List.getElem?_append_left zt]
  | succ j =>
   have:=ih (show ps[j]? = some p from h)
   rw[← this]
   show(Gr q++rE ps)[(j+1)*10+i]? = _
   rw[List.getElem?_append_right zt]
   congr 1
   simp;omega
section
variable {b:Bs}{W:World}{Om Ot K:Nat->Prop}{pv:Value}{S:Sh}
structure PL(W:World)(ps:List Pt)(j:Nat)(A:Option Addr)(n c:Nat)(w:World):Prop where
 row:w.ownsRow W.heap.size 89 10 (.slice A n c) n (rE (real (ps.take j)))
 len:n=(real (ps.take j)).length
 az:Below W.heap.size W w
theorem D0(H:SR b Om Ot K pv S W)(hl:S.pts.length<=900000000000):Calls Tryz.prog 19 #[ptr b.B] W λe w'=>∃A c,e = .returned (.slice A (real S.pts).length c)/\w'.ownsRow W.heap.size 89 10 (.slice A (real S.pts).length c) (real S.pts).length (rE (real S.pts))/\Below W.heap.size W w':=by
 obtain⟨Ap,cp,rfl,hc1,hc2⟩:=cO H.pts;have HP:=hid H.pts;have y0:=H.blk.cell 21 _ rfl;have HN:=hid hl;obtain⟨m,hm⟩:∃m,S.pts.length=m:=⟨_,rfl⟩;have HM:=hid hm;rw[hm]at y0 hc1 hl;clear H hm;go_in;go_wp2_with fail;go_loopw [3,13] (λl i wr=>∃(j:Nat) (A:Option Addr) (n c:Nat),j<=m/\i = .int .i64 (j:Int)/\l = .slice A n c/\Hid (PL W S.pts j A n c wr)) (λ_ i _=>m - (RowKit.intOf i).toNat)
 case atStart=>exact⟨0,none,0,0,by omega,rfl,rfl,(show Hid _ from⟨World.ownsRow_nil _ _ _ _,rfl,Below.refl _ _⟩)⟩
 case round =>
  obtain⟨j,A,n,c,hj,rfl,rfl,HL⟩:=hrel;clear y0;by_cases hlt:j<m
  ·obtain⟨p,hp⟩:∃p,S.pts[j]? = some p:=⟨_,List.getElem?_eq_getElem (by have:=HM.out;omega)⟩
   obtain⟨gp,rfl⟩:∃gp,Ap=some ⟨gp,0,none⟩:=by
    rcases HP.out.2 with⟨e,h0⟩ | ⟨g,cap,cur,e,_⟩
    ·have:=HM.out;omega
    ·injection e with e;exact⟨g,e⟩
   have I8:gp<W.heap.size:=(HP.out.lt gp rfl).2;have c0:wr.cell? ⟨gp,j*10,none⟩=some (.int .i64 p.kd):=(HL.out.az.cell I8).trans ((HP.out.cellAt (j*10) (by have:=HM.out;omega)).trans (kf hp 0 zo));have c1:wr.cell? ⟨gp,j*10+1,none⟩=some (.int .i64 p.t):=(HL.out.az.cell I8).trans ((HP.out.cellAt (j*10+1) (by have:=HM.out;omega)).trans (kf hp 1 zo));have c2:wr.cell? ⟨gp,j*10+2,none⟩=some (.int .i64 p.op):=(HL.out.az.cell I8).trans ((HP.out.cellAt (j*10+2) (by have:=HM.out;omega)).trans (kf hp 2 zo));have c3:wr.cell? ⟨gp,j*10+3,none⟩=some (.int .u32 (p.k.a:Int)):=(HL.out.az.cell I8).trans ((HP.out.cellAt (j*10+3) (by have:=HM.out;omega)).trans (kf hp 3 zo));have c4:wr.cell? ⟨gp,j*10+4,none⟩=some (.int .u32 (p.k.b:Int)):=(HL.out.az.cell I8).trans ((HP.out.cellAt (j*10+4) (by have:=HM.out;omega)).trans (kf hp 4 zo));have c5:wr.cell? ⟨gp,j*10+5,none⟩=some (.int .u16 (p.k.p:Int)):=(HL.out.az.cell I8).trans ((HP.out.cellAt (j*10+5) (by have:=HM.out;omega)).trans (kf hp 5 zo));have c6:wr.cell? ⟨gp,j*10+6,none⟩=some (.int .u16 (p.k.q:Int)):=(HL.out.az.cell I8).trans ((HP.out.cellAt (j*10+6) (by have:=HM.out;omega)).trans (kf hp 6 zo));have c7:wr.cell? ⟨gp,j*10+7,none⟩=some (.int .u8 (p.k.r:Int)):=(HL.out.az.cell I8).trans ((HP.out.cellAt (j*10+7) (by have:=HM.out;omega)).trans (kf hp 7 zo));have c8:wr.cell? ⟨gp,j*10+8,none⟩=some (.int .i64 p.v):=(HL.out.az.cell I8).trans ((HP.out.cellAt (j*10+8) (by have:=HM.out;omega)).trans (kf hp 8 zo));have c9:wr.cell? ⟨gp,j*10+9,none⟩=some (.int .i64 p.n):=(HL.out.az.cell I8).trans ((HP.out.cellAt (j*10+9) (by have:=HM.out;omega)).trans (kf hp 9 zo))
   have N7:Hid (real (S.pts.take (j+1))=if p.kd≠0 then real (S.pts.take j)++[p]else real (S.pts.take j)):=by show _=_;rw[qM hp,Hs]
   have WH:=hid (ae wr (.cells #[.int .i64 p.kd,.int .i64 p.t,.int .i64 p.op,.int .u32 (p.k.a:Int),.int .u32 (p.k.b:Int),.int .u16 (p.k.p:Int),.int .u16 (p.k.q:Int),.int .u8 (p.k.r:Int),.int .i64 p.v,.int .i64 p.n] 89))
   have hnl:n<=j:=by have h1:=HL.out.len;have h2:(real (S.pts.take j)).length<=(S.pts.take j).length:=List.length_filter_le _ _;rw[List.length_take]at h2;omega
   by_cases hk:p.kd=0
   ·have d0:(p.kd==0)=true:=by simpa using hk
    have Tu:Hid (PL W S.pts (j+1) A n c (wr.alloc (.cells #[.int .i64 p.kd,.int .i64 p.t,.int .i64 p.op,.int .u32 (p.k.a:Int),.int .u32 (p.k.b:Int),.int .u16 (p.k.p:Int),.int .u16 (p.k.q:Int),.int .u8 (p.k.r:Int),.int .i64 p.v,.int .i64 p.n] 89))):=by
     have h1:=N7.out;rw[if_neg (by simpa using hk)]at h1;exact⟨by rw[h1];exact HL.out.row.alloc _,by rw[h1];exact HL.out.len,HL.out.az.alloc HL.out.az.size _⟩
    clear hk hp I8 N7 WH HL;go_wp2_with fail;go_roundw
    case rel=>exact⟨j+1,A,n,c,by omega,by go_num,rfl,Tu⟩
    case measure=>simp[RowKit.intOf];omega
   ·have d0:(p.kd==0)=false:=by simpa using hk
    have Ht:Hid ((wr.alloc (.cells #[.int .i64 p.kd,.int .i64 p.t,.int .i64 p.op,.int .u32 (p.k.a:Int),.int .u32 (p.k.b:Int),.int .u16 (p.k.p:Int),.int .u16 (p.k.q:Int),.int .u8 (p.k.r:Int),.int .i64 p.v,.int .i64 p.n] 89)).ownsRow 0 89 10 (.slice A n c) n (rE (real (S.pts.take j)))):=cP (HL.out.row.alloc _) λ_ _=>Nat.zero_le _
    have tf:Hid (∀A' c' w1,w1.ownsRow 0 89 10 (.slice A' (n+1) c') (n+1) (rE (real (S.pts.take j))++Gr p)->(wr.alloc (.cells #[.int .i64 p.kd,.int .i64 p.t,.int .i64 p.op,.int .u32 (p.k.a:Int),.int .u32 (p.k.b:Int),.int .u16 (p.k.p:Int),.int .u16 (p.k.q:Int),.int .u8 (p.k.r:Int),.int .i64 p.v,.int .i64 p.n] 89)).grownBy w1 (Value.slice A n c).ownBlock->((Value.slice A' (n+1) c').ownBlock=(Value.slice A n c).ownBlock\/∃g,(Value.slice A' (n+1) c').ownBlock=some g/\(wr.alloc (.cells #[.int .i64 p.kd,.int .i64 p.t,.int .i64 p.op,.int .u32 (p.k.a:Int),.int .u32 (p.k.b:Int),.int .u16 (p.k.p:Int),.int .u16 (p.k.q:Int),.int .u8 (p.k.r:Int),.int .i64 p.v,.int .i64 p.n] 89)).heap.size<=g/\g<w1.heap.size)->PL W S.pts (j+1) A' (n+1) c' w1):=by
     intro A' c' w1 h1 h2 h3;have e:=N7.out;rw[if_pos (by simpa using hk)]at e;have hs:W.heap.size<=(wr.alloc (.cells #[.int .i64 p.kd,.int .i64 p.t,.int .i64 p.op,.int .u32 (p.k.a:Int),.int .u32 (p.k.b:Int),.int .u16 (p.k.p:Int),.int .u16 (p.k.q:Int),.int .u8 (p.k.r:Int),.int .i64 p.v,.int .i64 p.n] 89)).heap.size:=Nat.le_trans HL.out.az.size WH.out.size;refine⟨?_,by rw[e,List.length_append,← HL.out.len];rfl,?_⟩
     ·rw[e,yO];refine cP h1 λg hg=>?_
      rcases h3 with h3 | ⟨g',h3,h4,_⟩
      ·exact(HL.out.row.lt g (h3▸hg)).1
      ·rw[h3]at hg;obtain rfl:=Option.some.inj hg;omega
     ·exact(HL.out.az.alloc HL.out.az.size _).grown h2 hs λk hk=>(HL.out.row.lt k hk).1
    clear hk hp I8 N7 WH HL;go_wp2_with (at_builtin;refine jP (n+1) rfl _ _ 52 89 rfl Tryz.underlying52 _ 10 56 yS rfl zo zo _ _ _ rfl Ht.out (Gr p) rfl (by intro u hu;simp at hu;rcases hu with rfl | rfl | rfl | rfl | rfl | rfl | rfl | rfl | rfl | rfl <;> rfl) (by rw[World.size_alloc];rfl) rfl zo ?_;intro A' c' w1 h1 h2 h3;have HNX:=hid (tf.out A' c' w1 h1.out h2.out h3.out);clear h1 h2 h3);go_roundw
    case rel=>exact⟨j+1,A',n+1,c',by omega,by go_num,rfl,HNX⟩
    case measure=>simp[RowKit.intOf];omega
  ·obtain rfl:j=m:=zo
   have zU:Hid (PL W S.pts S.pts.length A n c wr):=by rw[HM.out];exact HL
   have hn:n=(real S.pts).length:=by have:=zU.out.len;rwa [List.take_length]at this
   subst hn;have Yu:=hid zU.out.row;rw[List.take_length]at Yu;have Z0:=hid zU.out.az;clear HL zU;go_wp2_with fail;go_ret;exact⟨A,c,rfl,Yu.out,Z0.out⟩
end
end Pg
end Go.Proofs.YtbhnbcadgmagpaaGreatDoor
