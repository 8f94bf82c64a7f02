/- Several texts of this proof in one file, each in its own namespace. -/
import Derived.Test.YtcockldefmmhbaaGreatDoorRows
import Derived.Test.YtcockldefmmhbaaGreatDoorKeyM
import Derived.Test.YtcockldefmmhbaaGreatDoorJ12
import Derived.Test.YtcockldefmmhbaaGreatDoorJ30
import Derived.BigQuiet
import Derived.IntWalk
import Derived.Laws.BitsAllLaws
import Derived.Laws.StructEq
import Derived.ChangeKeysEq
import Derived.KernelRfl
import Derived.Test.YtcockldefmmhbaaGreatDoorJ7
import Derived.Test.YtcockldefmmhbaaGreatDoorFldA
set_option linter.unusedVariables false
set_option linter.unusedSimpArgs false
set_option maxRecDepth 100000
namespace Go.Proofs.YtcockldefmmhbaaGreatDoor
open Go.ChangeShapes Go.WideShapes Go.ChangeAt Go.RowKit Go.Mtl
namespace Ky
open KeyM (lowB byteN mixN mixS isPow)
theorem ret_int {k:IntKind} {a b:Int} (h:a=b):Ending.returned (.int k a) = .returned (.int k b):=by rw [h]
abbrev kyc (a b p q r:Int):Array Value:=#[.int .u32 a,.int .u32 b,.int .u16 p,.int .u16 q,.int .u8 r]
abbrev epc (a p:Int):Array Value:=#[.int .u32 a,.int .u32 p]
abbrev pkc (a b c d e f h:Int):Array Value:=#[.int .u8 a,.int .u32 b,.int .u32 c,.int .u16 d,.int .u16 e,.int .u8 f,.int .u8 h]
section
variable {w w':World} {g:Nat} {a b c d e f h:Int} {t:TypeId}
theorem pk_cells (H:Blk w g (pkc a b c d e f h) t):w.cell? ⟨g,0,none⟩=some (.int .u8 a)/\w.cell? ⟨g,1,none⟩=some (.int .u32 b)/\w.cell? ⟨g,2,none⟩=some (.int .u32 c)/\w.cell? ⟨g,3,none⟩=some (.int .u16 d) ∧
  w.cell? ⟨g,4,none⟩=some (.int .u16 e)/\w.cell? ⟨g,5,none⟩=some (.int .u8 f)/\w.cell? ⟨g,6,none⟩=some (.int .u8 h):=by
 refine ⟨?_,?_,?_,?_,?_,?_,?_⟩ <;> exact H.cell _ _ rfl
theorem pk_frozen (H:Blk w g (pkc a b c d e f h) t):w.frozen? ⟨g,0,none⟩=false/\w.frozen? ⟨g,1,none⟩=false/\w.frozen? ⟨g,2,none⟩=false/\w.frozen? ⟨g,3,none⟩=false ∧
  w.frozen? ⟨g,4,none⟩=false/\w.frozen? ⟨g,5,none⟩=false/\w.frozen? ⟨g,6,none⟩=false:=by
 refine ⟨?_,?_,?_,?_,?_,?_,?_⟩ <;> exact H.frozen _
theorem ky_cells (H:Blk w g (kyc a b c d e) t):w.cell? ⟨g,0,none⟩=some (.int .u32 a)/\w.cell? ⟨g,1,none⟩=some (.int .u32 b)/\w.cell? ⟨g,2,none⟩=some (.int .u16 c)/\w.cell? ⟨g,3,none⟩=some (.int .u16 d) ∧
  w.cell? ⟨g,4,none⟩=some (.int .u8 e):=by
 refine ⟨?_,?_,?_,?_,?_⟩ <;> exact H.cell _ _ rfl
theorem ky_frozen (H:Blk w g (kyc a b c d e) t):w.frozen? ⟨g,0,none⟩=false/\w.frozen? ⟨g,1,none⟩=false/\w.frozen? ⟨g,2,none⟩=false/\w.frozen? ⟨g,3,none⟩=false/\w.frozen? ⟨g,4,none⟩=false:=by
 refine ⟨?_,?_,?_,?_,?_⟩ <;> exact H.frozen _
abbrev storeK (w:World) (g:Nat) (a b c d e:Int):World :=
 ((((w.setCell ⟨g,0,none⟩ (.int .u32 a)).setCell ⟨g,1,none⟩ (.int .u32 b)).setCell ⟨g,2,none⟩ (.int .u16 c)).setCell ⟨g,3,none⟩ (.int .u16 d)).setCell ⟨g,4,none⟩ (.int .u8 e)
theorem ky_store (H:Blk w g (kyc a b c d e) t) (a' b' c' d' e':Int):Blk (storeK w g a' b' c' d' e') g (kyc a' b' c' d' e') t :=
 by
 have h0:=H.set' 0 (.int .u32 a') (cs':=kyc a' b c d e) rfl
 have h1:=h0.set' 1 (.int .u32 b') (cs':=kyc a' b' c d e) rfl
 have h2:=h1.set' 2 (.int .u16 c') (cs':=kyc a' b' c' d e) rfl
 have h3:=h2.set' 3 (.int .u16 d') (cs':=kyc a' b' c' d' e) rfl
 exact h3.set' 4 (.int .u8 e') rfl
theorem below_storeK {B:Nat} {w0:World} (hb:Below B w0 w) (hg:B<=g) (a b c d e:Int):Below B w0 (storeK w g a b c d e) :=
 ((((hb.setCell (p:=⟨g,0,none⟩) hg _).setCell (p:=⟨g,1,none⟩) hg _).setCell (p:=⟨g,2,none⟩) hg _).setCell (p:=⟨g,3,none⟩) hg _).setCell (p:=⟨g,4,none⟩) hg _
abbrev storeP (w:World) (g:Nat) (a b c d e f h:Int):World :=
 ((((((w.setCell ⟨g,0,none⟩ (.int .u8 a)).setCell ⟨g,1,none⟩ (.int .u32 b)).setCell ⟨g,2,none⟩ (.int .u32 c)).setCell ⟨g,3,none⟩ (.int .u16 d)).setCell ⟨g,4,none⟩ (.int .u16 e)).setCell ⟨g,5,none⟩ (.int .u8 f)).setCell ⟨g,6,none⟩ (.int .u8 h)
theorem storeP_other {cs:Array Value} {k:Nat} (H:Blk w g cs t) (hk:g≠k) (a b c d e f h:Int):Blk (storeP w k a b c d e f h) g cs t :=
 ((((((H.other k 0 hk _).other k 1 hk _).other k 2 hk _).other k 3 hk _).other k 4 hk _).other k 5 hk _).other k 6 hk _
theorem below_storeP {B:Nat} {w0:World} (hb:Below B w0 w) (hg:B<=g) (a b c d e f h:Int):Below B w0 (storeP w g a b c d e f h) :=
 ((((((hb.setCell (p:=⟨g,0,none⟩) hg _).setCell (p:=⟨g,1,none⟩) hg _).setCell (p:=⟨g,2,none⟩) hg _).setCell (p:=⟨g,3,none⟩) hg _).setCell (p:=⟨g,4,none⟩) hg _).setCell (p:=⟨g,5,none⟩) hg _).setCell (p:=⟨g,6,none⟩) hg _
end
set_option maxHeartbeats 1000000 in
theorem lower_any (a p b q:Nat) (g:Bool) (hg:lowB a p b q=g) (W:World) :
  Calls Tryz.prog 100 #[.agg (epc a p),.agg (epc b q)] W fun e w'=>e = .returned (.bool g)/\Below W.heap.size W w':=by
 have HX:=Lib.hid ((Blk.box W (epc a p) 166).alloc (.cells (epc b q) 166))
 have HY:=Lib.hid (Blk.box1 W (.cells (epc a p) 166) (epc b q) 166)
 have HB:=Lib.hid (((Below.refl _ W).alloc (Nat.le_refl _) (.cells (epc a p) 166)).alloc (by simp) (.cells (epc b q) 166))
 have x0:=HX.out.cell 0 _ rfl
 have x1:=HX.out.cell 1 _ rfl
 have y0:=HY.out.cell 0 _ rfl
 have y1:=HY.out.cell 1 _ rfl
 by_cases h:a=b
 ·subst h
  rw [KeyM.lowB_eq] at hg
  have d0:((a:Int) != a)=false:=by simp
  have HG:=Lib.hid hg
  clear hg
  go_enter Tryz.func100,Tryz.ntmps100
  go_wp2
  go_ret
  exact ⟨by rw [← HG.out];rfl,HB.out⟩
 ·rw [KeyM.lowB_ne h] at hg
  have d0:((a:Int) != b)=true:=by simp;omega
  have HG:=Lib.hid hg
  clear hg h
  go_enter Tryz.func100,Tryz.ntmps100
  go_wp2
  go_ret
  exact ⟨by rw [← HG.out];rfl,HB.out⟩
set_option maxHeartbeats 1000000 in
theorem end_any (a b p q r:Nat) (hp:p < 65536) (hq:q < 65536) (i:Int) (x y:Nat) (hi:i=0/\a=x/\p=y\/i=1/\b=x/\q=y) (W:World) :
  Calls Tryz.prog 181 #[.agg (kyc a b p q r),.int .i64 i] W fun e w'=>e = .returned (.agg (epc x y))/\Below W.heap.size W w':=by
 have HX:=Lib.hid ((Blk.box W (kyc a b p q r) 87).alloc (.cells (epc 0 0) 166)).drew
 have HY:=Lib.hid (Blk.box1 W (.cells (kyc a b p q r) 87) (epc 0 0) 166).drew
 have HB:=Lib.hid (((Below.refl _ W).alloc (Nat.le_refl _) (.cells (kyc a b p q r) 87)).alloc (by simp) (.cells (epc 0 0) 166)).drew
 rcases hi with ⟨rfl,rfl,rfl⟩ | ⟨rfl,rfl,rfl⟩
 ·go_enter Tryz.func181,Tryz.ntmps181
  go_wp2
  obtain ⟨w1,hw1⟩:∃ w1,w1=((W.alloc (.cells (kyc a b p q r) 87)).alloc (.cells (epc 0 0) 166)).drew:=⟨_,rfl⟩
  refine region_still_tail 10 (by kernel_rfl) (by kernel_rfl) w1 hw1 ?_
  rw [← hw1] at HX HY HB
  clear hw1
  have x0:=HX.out.cell 0 _ rfl
  have x1:=HX.out.cell 2 _ rfl
  have y0:=HY.out.cell 0 _ rfl
  have y1:=HY.out.cell 1 _ rfl
  have f0:=HY.out.frozen 0
  have f1:=HY.out.frozen 1
  have we:IntKind.u32.wrap (p:Int)=(p:Int):=by rw [IntKind.wrap_u32'];omega
  simp only [List.take_succ_cons,List.take_zero,List.drop_succ_cons,List.drop_zero]
  repeat still_step
  refine wpStill_nil ?_
  go_wp2
  have hr:=(HY.out.set 0 (.int .u32 (a:Int))).set 1 (.int .u32 (p:Int))
  have r0:=hr.cell 0 (.int .u32 (a:Int)) rfl
  have r1:=hr.cell 1 (.int .u32 (p:Int)) rfl
  exact bodyPost_ret (v:=.agg (epc a p)) (by simp [results,Tryz.results181,go_sem,r0,r1]) rfl ⟨rfl,(HB.out.setCell (by simp) _).setCell (by simp) _⟩
 ·go_enter Tryz.func181,Tryz.ntmps181
  go_wp2
  obtain ⟨w1,hw1⟩:∃ w1,w1=((W.alloc (.cells (kyc a b p q r) 87)).alloc (.cells (epc 0 0) 166)).drew:=⟨_,rfl⟩
  refine region_still_tail 10 (by kernel_rfl) (by kernel_rfl) w1 hw1 ?_
  rw [← hw1] at HX HY HB
  clear hw1
  have x0:=HX.out.cell 1 _ rfl
  have x1:=HX.out.cell 3 _ rfl
  have y0:=HY.out.cell 0 _ rfl
  have y1:=HY.out.cell 1 _ rfl
  have f0:=HY.out.frozen 0
  have f1:=HY.out.frozen 1
  have we:IntKind.u32.wrap (q:Int)=(q:Int):=by rw [IntKind.wrap_u32'];omega
  simp only [List.take_succ_cons,List.take_zero,List.drop_succ_cons,List.drop_zero]
  repeat still_step
  refine wpStill_nil ?_
  go_wp2
  have hr:=(HY.out.set 0 (.int .u32 (b:Int))).set 1 (.int .u32 (q:Int))
  have r0:=hr.cell 0 (.int .u32 (b:Int)) rfl
  have r1:=hr.cell 1 (.int .u32 (q:Int)) rfl
  exact bodyPost_ret (v:=.agg (epc b q)) (by simp [results,Tryz.results181,go_sem,r0,r1]) rfl ⟨rfl,(HB.out.setCell (by simp) _).setCell (by simp) _⟩
def tkN (k:Nat):Nat:=if k=8 then 0 else if k=0 then 8 else k
theorem turnKind_any (k x:Nat) (hx:tkN k=x) (W:World) :
  Calls Tryz.prog 143 #[.int .u8 (k:Int)] W fun e w'=>e = .returned (.int .u8 (x:Int))/\W=w':=by
 unfold tkN at hx
 by_cases h8:k=8
 ·rw [if_pos h8] at hx
  subst h8 hx
  go_enter Tryz.func143,Tryz.ntmps143
  go_wp2
  go_ret
  exact ⟨rfl,rfl⟩
 ·rw [if_neg h8] at hx
  by_cases h0:k=0
  ·rw [if_pos h0] at hx
   subst h0 hx
   clear h8
   go_enter Tryz.func143,Tryz.ntmps143
   go_wp2
   go_ret
   exact ⟨rfl,rfl⟩
  ·rw [if_neg h0] at hx
   subst hx
   have d8:((k:Int) == 8)=false:=by simp;omega
   have d0:((k:Int) == 0)=false:=by simp;omega
   clear h0 h8
   go_enter Tryz.func143,Tryz.ntmps143
   go_wp2
   go_ret
   exact ⟨rfl,rfl⟩
theorem byte_is (n i:Nat):(n:Int) / 2 ^ (8 * i) % 256=(byteN n i:Int):=by
 unfold byteN
 rw [Int.pow_mul]
 simp
theorem step_is (h b:Nat) (hh:h < 4294967296) (hb:b < 256):bits .xor .u32 (h:Int) (b:Int) * 16777619 % 4294967296=(KeyM.step h b:Int):=by
 rw [u32_xor_nat h b hh (by omega)]
 unfold KeyM.step
 generalize h ^^^ b=x
 omega
set_option maxHeartbeats 1000000 in
theorem mix_any (h n k:Nat) (hh:h < 4294967296) (hn:n < 4294967296) (hk:k<=4) (x:Nat) (hx:mixN n k h=x) (W:World) :
  Calls Tryz.prog 144 #[.int .u32 (h:Int),.int .u32 (n:Int),.int .i64 (k:Int)] W fun e w'=>e = .returned (.int .u32 (x:Int))/\W=w':=by
 have HX:=Lib.hid hx
 clear hx
 go_enter Tryz.func144,Tryz.ntmps144
 go_wp2
 go_loop [0,7] (fun v i=>∃ m g:Nat,m<=4/\g < 4294967296/\i = .int .i64 ((m:Int) - 1)/\v = .int .u32 (g:Int)/\Hid (mixN n m g=x)) (fun _ i=>(intOf i+1).toNat)
 case atStart=>exact ⟨k,h,hk,hh,rfl,rfl,HX⟩
 case round =>
  obtain ⟨m,g,hm,hg,rfl,rfl,hX⟩:=hrel
  rcases m with _ | m
  ·go_wp2
   go_ret
   exact ⟨by rw [← hX.out];rfl,rfl⟩
  ·rw [show (((m+1:Nat):Int) - 1)=(m:Int) by omega]
   have HS:=Lib.hid (step_is g (byteN n m) hg (KeyM.byteN_lt n m))
   have hX2:=Lib.hid ((KeyM.mixS_succ KeyM.step n m g).symm.trans hX.out)
   have hl:=KeyM.step_lt g (byteN n m)
   clear hX
   generalize KeyM.step g (byteN n m)=z at HS hX2 hl
   go_wp2
   go_round
   case rel=>exact ⟨m,z,by omega,hl,rfl,by rw [byte_is,HS.out],hX2⟩
   case measure=>simp [intOf]
theorem i64_and_nat (a b:Nat) (ha:a < 9223372036854775808) (hb:b < 9223372036854775808):bits .and .i64 (a:Int) (b:Int)=((a &&& b:Nat):Int):=by
 have hx:a &&& b < 2 ^ 63:=Nat.and_lt_two_pow _ (by omega)
 show IntKind.i64.wrap ((BitVec.ofInt 64 (a:Int) &&& BitVec.ofInt 64 (b:Int)).toNat:Int)=_
 rw [BitVec.toNat_and,ofInt_u64 a (by omega),ofInt_u64 b (by omega)]
 exact IntWalk.i64_in _ (by omega)
theorem pow_is (n:Nat) (h1:1<=n) (h2:n<=4096):(bits .and .i64 (n:Int) ((n:Int) - 1) == 0)=isPow (n:Int):=by
 rw [show (n:Int) - 1=((n - 1:Nat):Int) by omega,i64_and_nat n (n - 1) (by omega) (by omega),← KeyM.pow_and n h1 h2]
 generalize n &&& (n - 1)=x
 rw [Bool.eq_iff_iff]
 simp
theorem isPower_any (n:Nat) (h1:1<=n) (h2:n<=4096) (g:Bool) (hg:isPow (n:Int)=g) (W:World) :
  Calls Tryz.prog 102 #[.int .i64 (n:Int)] W fun e w'=>e = .returned (.bool g)/\W=w':=by
 have HG:=Lib.hid ((pow_is n h1 h2).trans hg)
 clear hg
 go_enter Tryz.func102,Tryz.ntmps102
 go_wp2
 go_ret
 exact ⟨by rw [← HG.out];rfl,rfl⟩
end Ky
end Go.Proofs.YtcockldefmmhbaaGreatDoor
set_option linter.unusedVariables false
set_option linter.unusedSimpArgs false
set_option maxRecDepth 100000
namespace Go.Proofs.YtcockldefmmhbaaGreatDoor
open Go.ChangeShapes Go.WideShapes Go.ChangeAt Go.RowKit Go.Mtl
namespace Ky
open KeyM (lowB byteN mixN mixS isPow hashN strN lessB)
end Ky
end Go.Proofs.YtcockldefmmhbaaGreatDoor
set_option linter.unusedVariables false
set_option linter.unusedSimpArgs false
set_option maxRecDepth 100000
namespace Go.Proofs.YtcockldefmmhbaaGreatDoor
open Go.ChangeShapes Go.WideShapes Go.ChangeAt Go.RowKit Go.Mtl
namespace Ky
theorem ky_fields:Tryz.prog.underlying 87=some (.struct (Tryz.prog.fieldsOf 87)):=by kernel_rfl
theorem ky_stood:Tryz.prog.stoodInHeld 87=false:=by kernel_rfl
theorem ky_lay:(Tryz.prog.fieldsOf 87).toList.map (fun f=>(f.type,f.offset))=[(84,0),(85,2),(5,4)]:=by kernel_rfl
theorem ky_names:(Tryz.prog.fieldsOf 87).toList.all (fun f=>f.name != "_")=true:=by kernel_rfl
theorem u32_cells:Tryz.prog.cellsOf 73=1:=by kernel_rfl
theorem u16_cells:Tryz.prog.cellsOf 76=1:=by kernel_rfl
theorem u32_info:(Tryz.prog.info? 73).isSome=true:=by kernel_rfl
theorem u16_info:(Tryz.prog.info? 76).isSome=true:=by kernel_rfl
theorem ar4_is:Tryz.prog.underlying 84=some (.array 2 73):=by kernel_rfl
theorem ar2_is:Tryz.prog.underlying 85=some (.array 2 76):=by kernel_rfl
theorem pair4 (d:Nat) (t:TypeId) (ht:Tryz.prog.underlying t=some (.array 2 73)) (a p b q:Int) (w:World):(Op.equalIn (d+2) t (.agg (epc a p)) (.agg (epc b q))).run Tryz.prog w = .ok (decide (a=b/\p=q)) w:=by
 obtain ⟨i4,h4⟩:=Option.isSome_iff_exists.1 u32_info
 rw [run_equalIn_array w (d+1) _ _ ht h4]
 by_cases h1:a=b
 ·by_cases h2:p=q
  ·simp [u32_cells,Op.eqItems,List.range,List.range.loop,go_sem,h1,h2]
  ·simp [u32_cells,Op.eqItems,List.range,List.range.loop,go_sem,h1,h2]
 ·simp [u32_cells,Op.eqItems,List.range,List.range.loop,go_sem,h1]
theorem pair2 (d:Nat) (a p b q:Int) (w:World):(Op.equalIn (d+2) 85 (.agg #[.int .u16 a,.int .u16 p]) (.agg #[.int .u16 b,.int .u16 q])).run Tryz.prog w = .ok (decide (a=b/\p=q)) w:=by
 obtain ⟨i4,h4⟩:=Option.isSome_iff_exists.1 u16_info
 rw [run_equalIn_array w (d+1) _ _ ar2_is h4]
 by_cases h1:a=b
 ·by_cases h2:p=q
  ·simp [u16_cells,Op.eqItems,List.range,List.range.loop,go_sem,h1,h2]
  ·simp [u16_cells,Op.eqItems,List.range,List.range.loop,go_sem,h1,h2]
 ·simp [u16_cells,Op.eqItems,List.range,List.range.loop,go_sem,h1]
theorem ky_eq (a b p q r a2 b2 p2 q2 r2:Int) (w:World):(Op.equalIn 10000 87 (.agg (kyc a b p q r)) (.agg (kyc a2 b2 p2 q2 r2))).run Tryz.prog w = .ok (decide (a=a2/\b=b2/\p=p2/\q=q2/\r=r2)) w:=by
 rw [show (10000:Nat)=9999+1 from rfl,run_equalIn_struct w 9999 _ _ _ ky_fields ky_stood]
 have hl:=ky_lay
 have hn:=ky_names
 generalize (Tryz.prog.fieldsOf 87).toList=l at hl hn ⊢
 rcases l with _ | ⟨f1,_ | ⟨f2,_ | ⟨f3,_ | ⟨f4,l⟩⟩⟩⟩ <;> simp at hl hn
 obtain ⟨⟨t1,o1⟩,⟨t2,o2⟩,t3,o3⟩:=hl
 obtain ⟨n1,n2,n3⟩:=hn
 have c1:∀ (a b p q r:Int),(part 84 (kyc a b p q r) 0).run Tryz.prog w = .ok (.agg (epc a b)) w:=fun a b p q r=>by simp [go_sem]
 have c2:∀ (a b p q r:Int),(part 85 (kyc a b p q r) 2).run Tryz.prog w = .ok (.agg #[.int .u16 p,.int .u16 q]) w:=fun a b p q r=>by simp [go_sem]
 have c3:∀ (a b p q r:Int),(part 5 (kyc a b p q r) 4).run Tryz.prog w = .ok (.int .u8 r) w:=fun a b p q r=>by simp [go_sem]
 have q1:(Op.equalIn 9999 84 (.agg (epc a b)) (.agg (epc a2 b2))).run Tryz.prog w = .ok (decide (a=a2/\b=b2)) w:=pair4 9997 _ ar4_is a b a2 b2 w
 have q2':(Op.equalIn 9999 85 (.agg #[.int .u16 p,.int .u16 q]) (.agg #[.int .u16 p2,.int .u16 q2])).run Tryz.prog w = .ok (decide (p=p2/\q=q2)) w:=pair2 9997 p q p2 q2 w
 have q3:(Op.equalIn 9999 5 (.int .u8 r) (.int .u8 r2)).run Tryz.prog w = .ok (r == r2) w:=run_equalIn_int w 9998 _ .u8 .u8 r r2 (by kernel_rfl)
 simp only [Op.eqFields,ne_eq,n1,n2,n3,not_false_eq_true,if_true,t1,t2,t3,o1,o2,o3,Sem.run_bind,c1,c2,c3,Result.andThen_ok,q1,q2',q3,Sem.run_ite,Sem.run_pure]
 by_cases h1:a=a2/\b=b2
 ·by_cases h2:p=p2/\q=q2
  ·by_cases h3:r=r2
   ·simp [h1,h2,h3]
   ·simp [h1,h2,h3]
  ·have h4 : ¬ (a=a2/\b=b2/\p=p2/\q=q2/\r=r2):=fun h=>h2 ⟨h.2.2.1,h.2.2.2.1⟩
   rw [decide_eq_true h1,decide_eq_false h2,decide_eq_false h4];simp
 ·have h4 : ¬ (a=a2/\b=b2/\p=p2/\q=q2/\r=r2):=fun h=>h1 ⟨h.1,h.2.1⟩
  rw [decide_eq_false h1,decide_eq_false h4];simp
end Ky
end Go.Proofs.YtcockldefmmhbaaGreatDoor
set_option linter.unusedVariables false
set_option linter.unusedSimpArgs false
set_option maxRecDepth 100000
namespace Go.Proofs.YtcockldefmmhbaaGreatDoor
open Go.ChangeShapes Go.WideShapes Go.ChangeAt Go.RowKit Go.Mtl
namespace Ky
open KeyM (lowB byteN mixN mixS isPow hashN strN lessB)
def tkP (pr kd:Nat):Nat:=if pr=1 then tkN kd else kd
set_option maxHeartbeats 2000000 in
theorem turn_any (pr sr ds sp dp f kd x:Nat) (hx:tkP pr kd=x) (W:World) :
  Calls Tryz.prog 101 #[.agg (pkc pr sr ds sp dp f kd)] W fun e w'=>e = .returned (.agg (pkc pr ds sr dp sp f x))/\Below W.heap.size W w':=by
 have HX:=Lib.hid ((Blk.box W (pkc pr sr ds sp dp f kd) 95).alloc (.cells (pkc 0 0 0 0 0 0 0) 95))
 have HY:=Lib.hid (Blk.box1 W (.cells (pkc pr sr ds sp dp f kd) 95) (pkc 0 0 0 0 0 0 0) 95)
 obtain ⟨x0,x1,x2,x3,x4,x5,x6⟩:=pk_cells HX.out
 obtain ⟨f0,f1,f2,f3,f4,f5,f6⟩:=pk_frozen HX.out
 obtain ⟨g0,g1,g2,g3,g4,g5,g6⟩:=pk_frozen HY.out
 obtain ⟨y0,y1,y2,y3,y4,y5,y6⟩:=pk_cells HY.out
 unfold tkP at hx
 by_cases h1:pr=1
 ·rw [if_pos h1] at hx
  subst h1
  have HK:=Lib.hid (turnKind_any kd x hx)
  clear hx
  go_enter Tryz.func101,Tryz.ntmps101
  go_wp2_with fail
  refine (HK.out _).mono ?_
  rintro e w' ⟨rfl,rfl⟩
  go_wp2_with fail
  have HR:=Blk.box1 W (.cells (pkc 1 ds sr dp sp f x) 95) (pkc 1 ds sr dp sp f x) 95
  obtain ⟨r0,r1,r2,r3,r4,r5,r6⟩:=pk_cells HR
  exact bodyPost_ret (v:=.agg (pkc 1 ds sr dp sp f x)) (by simp [results,Tryz.results101,go_sem,r0,r1,r2,r3,r4,r5,r6]) rfl ⟨rfl,((Below.refl _ W).alloc (Nat.le_refl _) _).alloc (by simp) _⟩
 ·rw [if_neg h1] at hx
  subst hx
  have d1:((pr:Int) == 1)=false:=by simp;omega
  clear h1
  go_enter Tryz.func101,Tryz.ntmps101
  go_wp2_with fail
  have HR:=Blk.box1 W (.cells (pkc pr ds sr dp sp f kd) 95) (pkc pr ds sr dp sp f kd) 95
  obtain ⟨r0,r1,r2,r3,r4,r5,r6⟩:=pk_cells HR
  exact bodyPost_ret (v:=.agg (pkc pr ds sr dp sp f kd)) (by simp [results,Tryz.results101,go_sem,r0,r1,r2,r3,r4,r5,r6]) rfl ⟨rfl,((Below.refl _ W).alloc (Nat.le_refl _) _).alloc (by simp) _⟩
set_option maxHeartbeats 2000000 in
theorem of_any (pr sr ds sp dp f kd:Nat) (hsp:sp < 65536) (hdp:dp < 65536) (a b p q:Nat) (g:Bool) (hg:lowB ds dp sr sp=g) (hk:g=true/\ds=a/\sr=b/\dp=p/\sp=q\/g=false/\sr=a/\ds=b/\sp=p/\dp=q) (W:World) :
  Calls Tryz.prog 65 #[.agg (pkc pr sr ds sp dp f kd)] W fun e w'=>e = .returned (.tuple #[.agg (kyc a b p q pr),.bool g])/\Below W.heap.size W w':=by
 have HX:=Lib.hid ((Blk.box W (pkc pr sr ds sp dp f kd) 95).alloc (.cells (kyc 0 0 0 0 0) 87))
 have HY:=Lib.hid (Blk.box1 W (.cells (pkc pr sr ds sp dp f kd) 95) (kyc 0 0 0 0 0) 87)
 have HB:=Lib.hid (((Below.refl _ W).alloc (Nat.le_refl _) (.cells (pkc pr sr ds sp dp f kd) 95)).alloc (by simp) (.cells (kyc 0 0 0 0 0) 87))
 obtain ⟨x0,x1,x2,x3,x4,x5,x6⟩:=pk_cells HX.out
 obtain ⟨f0,f1,f2,f3,f4,f5,f6⟩:=pk_frozen HX.out
 have HL:=Lib.hid (lower_any ds dp sr sp g hg)
 clear hg
 go_enter Tryz.func65,Tryz.ntmps65
 go_wp2_with fail
 refine (HL.out _).mono ?_
 rintro e w1 ⟨rfl,hb1⟩
 have HX1:=Lib.hid (HX.out.next hb1)
 have HY1:=Lib.hid (HY.out.next hb1)
 have HB1:=Lib.hid (HB.out.trans (hb1.mono HB.out.size))
 clear hb1 HX HY HB HL x0 x1 x2 x3 x4 x5 x6 f0 f1 f2 f3 f4 f5 f6
 obtain ⟨x0,x1,x2,x3,x4,x5,x6⟩:=pk_cells HX1.out
 obtain ⟨f0,f1,f2,f3,f4,f5,f6⟩:=pk_frozen HX1.out
 obtain ⟨y0,y1,y2,y3,y4⟩:=ky_cells HY1.out
 obtain ⟨g0,g1,g2,g3,g4⟩:=ky_frozen HY1.out
 rcases hk with ⟨rfl,rfl,rfl,rfl,rfl⟩ | ⟨rfl,rfl,rfl,rfl,rfl⟩
 ·obtain ⟨z,hz⟩:∃ z,tkP pr kd=z:=⟨_,rfl⟩
  have HT:=Lib.hid (turn_any pr sr ds sp dp f kd z hz)
  clear hz
  go_wp2_with fail
  refine (HT.out _).mono ?_
  rintro e w2 ⟨rfl,hb2⟩
  have HX2:=Lib.hid (HX1.out.next hb2)
  have HY2:=Lib.hid (HY1.out.next hb2)
  have HB2:=Lib.hid (HB1.out.trans (hb2.mono HB1.out.size))
  clear hb2 HX1 HY1 HB1 HT x0 x1 x2 x3 x4 x5 x6 f0 f1 f2 f3 f4 f5 f6 y0 y1 y2 y3 y4 g0 g1 g2 g3 g4
  obtain ⟨x0,x1,x2,x3,x4,x5,x6⟩:=pk_cells HX2.out
  obtain ⟨f0,f1,f2,f3,f4,f5,f6⟩:=pk_frozen HX2.out
  obtain ⟨y0,y1,y2,y3,y4⟩:=ky_cells HY2.out
  obtain ⟨g0,g1,g2,g3,g4⟩:=ky_frozen HY2.out
  go_wp2_with fail
  have HR:=ky_store (storeP_other HY2.out (k:=W.heap.size) (by simp) pr ds sr dp sp f z) ds sr dp sp pr
  obtain ⟨r0,r1,r2,r3,r4⟩:=ky_cells HR
  exact bodyPost_ret (v:=.tuple #[.agg (kyc ds sr dp sp pr),.bool true]) (by simp [results,Tryz.results65,go_sem,r0,r1,r2,r3,r4]) rfl ⟨rfl,below_storeK (below_storeP HB2.out (Nat.le_refl _) _ _ _ _ _ _ _) (by simp) _ _ _ _ _⟩
 ·go_wp2_with fail
  have HR:=ky_store HY1.out sr ds sp dp pr
  obtain ⟨r0,r1,r2,r3,r4⟩:=ky_cells HR
  exact bodyPost_ret (v:=.tuple #[.agg (kyc sr ds sp dp pr),.bool false]) (by simp [results,Tryz.results65,go_sem,r0,r1,r2,r3,r4]) rfl ⟨rfl,below_storeK HB1.out (by simp) _ _ _ _ _⟩
theorem mix_int (h n k:Int) (x h' n' k':Nat) (e1:h=(h':Int)) (e2:n=(n':Int)) (e3:k=(k':Int)) (hh:h' < 4294967296) (hn:n' < 4294967296) (hk:k'<=4) (hx:mixN n' k' h'=x) (W:World) :
  Calls Tryz.prog 144 #[.int .u32 h,.int .u32 n,.int .i64 k] W fun e w'=>e = .returned (.int .u32 (x:Int))/\W=w':=by
 subst e1 e2 e3
 exact mix_any h' n' k' hh hn hk x hx W
def HashR (h0 h1 h2:Int) (t i:Value):Prop:=i = .int .i64 0/\t = .int .u32 h0\/i = .int .i64 1/\t = .int .u32 h1\/i = .int .i64 2/\t = .int .u32 h2
set_option maxHeartbeats 2000000 in
theorem hash_any (a b p q r:Nat) (ha:a < 4294967296) (hb:b < 4294967296) (hp:p < 65536) (hq:q < 65536) (hr:r < 256) (x:Nat) (hx:hashN a b p q r=x) (W:World) :
  Calls Tryz.prog 103 #[.agg (kyc a b p q r)] W fun e w'=>e = .returned (.int .u32 (x:Int))/\Below W.heap.size W w':=by
 have HX:=Lib.hid (Blk.box W (kyc a b p q r) 87)
 have HB:=Lib.hid ((Below.refl _ W).alloc (Nat.le_refl _) (.cells (kyc a b p q r) 87))
 obtain ⟨x0,x1,x2,x3,x4⟩:=ky_cells HX.out
 obtain ⟨m0,e0⟩:∃ m,mixN r 1 2166136261=m:=⟨_,rfl⟩
 obtain ⟨m1,e1⟩:∃ m,mixN a 4 m0=m:=⟨_,rfl⟩
 obtain ⟨m2,e2⟩:∃ m,mixN p 2 m1=m:=⟨_,rfl⟩
 obtain ⟨m3,e3⟩:∃ m,mixN b 4 m2=m:=⟨_,rfl⟩
 obtain ⟨m4,e4⟩:∃ m,mixN q 2 m3=m:=⟨_,rfl⟩
 have l0:m0 < 4294967296:=e0 ▸ KeyM.mixN_lt _ _ _ (by decide)
 have l1:m1 < 4294967296:=e1 ▸ KeyM.mixN_lt _ _ _ l0
 have l2:m2 < 4294967296:=e2 ▸ KeyM.mixN_lt _ _ _ l1
 have l3:m3 < 4294967296:=e3 ▸ KeyM.mixN_lt _ _ _ l2
 have l4:m4 < 4294967296:=e4 ▸ KeyM.mixN_lt _ _ _ l3
 have HE:=Lib.hid ((KeyM.hashN_steps e0 e1 e2 e3 e4).symm.trans hx)
 have M0:=Lib.hid (mix_int 2166136261 r 1 m0 2166136261 r 1 rfl rfl rfl (by omega) (by omega) (by omega) e0)
 have M1:=Lib.hid (mix_int m0 a 4 m1 m0 a 4 rfl rfl rfl l0 ha (by omega) e1)
 have M2:=Lib.hid (mix_int m1 p 2 m2 m1 p 2 rfl rfl rfl l1 (by omega) (by omega) e2)
 have M3:=Lib.hid (mix_int m2 b 4 m3 m2 b 4 rfl rfl rfl l2 hb (by omega) e3)
 have M4:=Lib.hid (mix_int m3 q 2 m4 m3 q 2 rfl rfl rfl l3 (by omega) (by omega) e4)
 clear hx e0 e1 e2 e3 e4 l0 l1 l2 l3 l4
 go_enter Tryz.func103,Tryz.ntmps103
 go_wp2_with fail
 refine (M0.out _).mono ?_
 rintro e w' ⟨rfl,rfl⟩
 go_wp2_with fail
 go_loop [3,9] (HashR m0 m2 m4) (fun _ i=>2 - (intOf i).toNat)
 case atStart=>exact Or.inl ⟨rfl,rfl⟩
 case round =>
  rcases hrel with ⟨rfl,rfl⟩ | ⟨rfl,rfl⟩ | ⟨rfl,rfl⟩
  ·go_wp2_with fail
   refine (M1.out _).mono ?_
   rintro e w' ⟨rfl,rfl⟩
   go_wp2_with fail
   refine (M2.out _).mono ?_
   rintro e w' ⟨rfl,rfl⟩
   go_wp2_with fail
   go_round
   case rel=>exact Or.inr (Or.inl ⟨rfl,rfl⟩)
   case measure=>simp [intOf]
  ·go_wp2_with fail
   refine (M3.out _).mono ?_
   rintro e w' ⟨rfl,rfl⟩
   go_wp2_with fail
   refine (M4.out _).mono ?_
   rintro e w' ⟨rfl,rfl⟩
   go_wp2_with fail
   go_round
   case rel=>exact Or.inr (Or.inr ⟨rfl,rfl⟩)
   case measure=>simp [intOf]
  ·go_wp2_with fail
   go_ret
   exact ⟨by rw [← HE.out];rfl,HB.out⟩
theorem isPower_int (s:Int) (h1:1<=s) (h2:s<=4096) (g:Bool) (hg:isPow s=g) (W:World) :
  Calls Tryz.prog 102 #[.int .i64 s] W fun e w'=>e = .returned (.bool g)/\W=w':=by
 obtain ⟨n,rfl⟩:=Int.eq_ofNat_of_zero_le (show 0<=s by omega)
 exact isPower_any n (by omega) (by omega) g hg W
set_option maxHeartbeats 1000000 in
theorem stripe_no (a b p q r:Nat) (s:Int) (hs:isPow s=false) (W:World) :
  Calls Tryz.prog 66 #[.agg (kyc a b p q r),.int .i64 s] W fun e w'=>e = .returned (.int .i64 0)/\Below W.heap.size W w':=by
 have HB:=Lib.hid ((Below.refl _ W).alloc (Nat.le_refl _) (.cells (kyc a b p q r) 87))
 by_cases h1:s < 1
 ·clear hs
  go_enter Tryz.func66,Tryz.ntmps66
  go_wp2_with fail
  go_ret
  exact ⟨rfl,HB.out⟩
 ·by_cases h2:4096 < s
  ·clear hs
   go_enter Tryz.func66,Tryz.ntmps66
   go_wp2_with fail
   go_ret
   exact ⟨rfl,HB.out⟩
  ·have HP:=Lib.hid (isPower_int s (by omega) (by omega) false hs)
   have d1:1<=s:=by omega
   have d2:s<=4096:=by omega
   clear hs h1 h2
   go_enter Tryz.func66,Tryz.ntmps66
   go_wp2_with (refine (HP.out _).mono ?_;rintro e w' ⟨rfl,rfl⟩)
   go_ret
   exact ⟨rfl,HB.out⟩
set_option maxHeartbeats 1000000 in
theorem stripe_yes (a b p q r:Nat) (s:Int) (hs:isPow s=true) (ha:a < 4294967296) (hb:b < 4294967296) (hp:p < 65536) (hq:q < 65536) (hr:r < 256) (x:Nat) (hx:hashN a b p q r=x) (W:World) :
  Calls Tryz.prog 66 #[.agg (kyc a b p q r),.int .i64 s] W fun e w'=>e = .returned (.int .i64 ((x:Int) % s))/\Below W.heap.size W w':=by
 have HX:=Lib.hid (Blk.box W (kyc a b p q r) 87)
 have HB:=Lib.hid ((Below.refl _ W).alloc (Nat.le_refl _) (.cells (kyc a b p q r) 87))
 obtain ⟨x0,x1,x2,x3,x4⟩:=ky_cells HX.out
 obtain ⟨d1,d2⟩:=KeyM.isPow_bd hs
 have hxl:x < 4294967296:=hx ▸ KeyM.hashN_lt a b p q r
 have HH:=Lib.hid (hash_any a b p q r ha hb hp hq hr x hx)
 have HP:=Lib.hid (isPower_int s d1 d2 true hs)
 have HF:Hid (wrap64 ((x:Int) % s)=(x:Int) % s):=by
  have y0:=Int.emod_nonneg (x:Int) (show s≠0 by omega)
  have y1:=Int.emod_lt_of_pos (x:Int) (show 0 < s by omega)
  generalize (x:Int) % s=z at y0 y1
  show wrap64 z=z
  unfold wrap64;omega
 clear hs hx
 go_enter Tryz.func66,Tryz.ntmps66
 go_wp2_with (refine (HP.out _).mono ?_;rintro e w' ⟨rfl,rfl⟩)
 refine (HH.out _).mono ?_
 rintro e w1 ⟨rfl,hb1⟩
 have HB1:=Lib.hid (HB.out.trans (hb1.mono HB.out.size))
 clear hb1 HX HB x0 x1 x2 x3 x4
 go_wp2_with fail
 go_ret
 exact ⟨ret_int HF.out,HB1.out⟩
end Ky
end Go.Proofs.YtcockldefmmhbaaGreatDoor
set_option linter.unusedVariables false
set_option linter.unusedSimpArgs false
set_option maxRecDepth 100000
namespace Go.Proofs.YtcockldefmmhbaaGreatDoor
open Go.ChangeShapes Go.WideShapes Go.ChangeAt Go.RowKit Go.Mtl
namespace Ga
open GatM (gI Fit)
theorem gParts:Tryz.prog.globalNamed "mantlet/gate.parts" = some 0:=by kernel_rfl
structure Env (w:World):Prop where
 c0:w.cell? ⟨0,0,none⟩=some (.int .i64 0)
 c1:w.cell? ⟨0,1,none⟩=some (.int .i64 40)
 c2:w.cell? ⟨0,2,none⟩=some (.int .i64 1099511627775)
 c3:w.cell? ⟨0,3,none⟩=some (.int .i64 40)
 c4:w.cell? ⟨0,4,none⟩=some (.int .i64 12)
 c5:w.cell? ⟨0,5,none⟩=some (.int .i64 4095)
 c6:w.cell? ⟨0,6,none⟩=some (.int .i64 52)
 c7:w.cell? ⟨0,7,none⟩=some (.int .i64 12)
 c8:w.cell? ⟨0,8,none⟩=some (.int .i64 4095)
theorem Env.lt {w:World} (h:Env w):0 < w.heap.size:=World.block_lt_of_cell? _ _ h.c0
theorem Env.below {w w':World} (h:Env w) {B:Nat} (hb:Below B w w') (hB:w.heap.size<=B):Env w':=by
 have hlt:=h.lt
 have k:∀ i,w'.cell? ⟨0,i,none⟩=w.cell? ⟨0,i,none⟩:=fun i=>hb.cell (Nat.lt_of_lt_of_le hlt hB)
 exact ⟨(k 0).trans h.c0,(k 1).trans h.c1,(k 2).trans h.c2,(k 3).trans h.c3,(k 4).trans h.c4,(k 5).trans h.c5,(k 6).trans h.c6,(k 7).trans h.c7,(k 8).trans h.c8⟩
theorem Env.alloc {w:World} (h:Env w) (o:Obj):Env (w.alloc o):=h.below ((Below.refl _ _).alloc (Nat.le_refl _) o) (Nat.le_refl _)
theorem Env.drewN {w:World} (h:Env w) (n:Nat):Env (w.drewN n):=⟨h.c0,h.c1,h.c2,h.c3,h.c4,h.c5,h.c6,h.c7,h.c8⟩
theorem fget_c {c k v:Int} (h:Fit c k v) (W:World) :
  Calls Tryz.prog 124 #[.int .u64 (gI c k v),.int .i64 0,.int .i64 40] W fun e w'=>e = .returned (.int .u64 c)/\∃ n,w'=W.drewN n:=by
 have:=Fld.get_yes (gI c k v) 0 40 (GatM.gI_lo h) (GatM.gI_hi h) (by omega) (by omega) (by omega) W
 unfold Fld.getI at this
 rwa [GatM.get_c h] at this
theorem fget_k {c k v:Int} (h:Fit c k v) (W:World) :
  Calls Tryz.prog 124 #[.int .u64 (gI c k v),.int .i64 40,.int .i64 12] W fun e w'=>e = .returned (.int .u64 k)/\∃ n,w'=W.drewN n:=by
 have:=Fld.get_yes (gI c k v) 40 12 (GatM.gI_lo h) (GatM.gI_hi h) (by omega) (by omega) (by omega) W
 unfold Fld.getI at this
 rwa [GatM.get_k h] at this
theorem fget_v {c k v:Int} (h:Fit c k v) (W:World) :
  Calls Tryz.prog 124 #[.int .u64 (gI c k v),.int .i64 52,.int .i64 12] W fun e w'=>e = .returned (.int .u64 v)/\∃ n,w'=W.drewN n:=by
 have:=Fld.get_yes (gI c k v) 52 12 (GatM.gI_lo h) (GatM.gI_hi h) (by omega) (by omega) (by omega) W
 unfold Fld.getI at this
 rwa [GatM.get_v h] at this
theorem fput_c {c k v n:Int} (h:Fit c k v) (h0:0<=n) (h1:n < 1099511627776) (W:World) :
  Calls Tryz.prog 207 #[.int .u64 (gI c k v),.int .i64 0,.int .i64 40,.int .u64 n] W fun e w'=>e = .returned (.int .u64 (gI n k v))/\∃ n,w'=W.drewN n:=by
 have:=Fld.put_yes (gI c k v) 0 40 n (GatM.gI_lo h) (GatM.gI_hi h) h0 (by omega) (by omega) (by omega) (by omega) W
 unfold Fld.putI at this
 rwa [GatM.put_c h h0 h1] at this
theorem fput_v {c k v n:Int} (h:Fit c k v) (h0:0<=n) (h1:n < 4096) (W:World) :
  Calls Tryz.prog 207 #[.int .u64 (gI c k v),.int .i64 52,.int .i64 12,.int .u64 n] W fun e w'=>e = .returned (.int .u64 (gI c k n))/\∃ n,w'=W.drewN n:=by
 have:=Fld.put_yes (gI c k v) 52 12 n (GatM.gI_lo h) (GatM.gI_hi h) h0 (by omega) (by omega) (by omega) (by omega) W
 unfold Fld.putI at this
 rwa [GatM.put_v h h0 h1] at this
set_option maxHeartbeats 1000000 in
theorem get_c {c k v:Int} (h:Fit c k v) (W:World) (he:Env W) :
  Calls Tryz.prog 85 #[.int .u64 (gI c k v),.int .i64 0] W fun e w'=>e = .returned (.int .i64 c)/\∃ n,w'=W.drewN n:=by
 have H:=Lib.hid h
 obtain ⟨b0,b1,b2,b3,b4,b5⟩:=h
 have x0:=he.c0
 have x1:=he.c1
 have hw:wrap64 c=c:=IntWalk.wrap64_in _ (by omega)
 clear he b0 b1 b2 b3 b4 b5
 go_enter Tryz.func85,Tryz.ntmps85
 go_wp2_with fail
 refine region_still_tail 9 (by kernel_rfl) (by kernel_rfl) W.drew rfl ?_
 simp only [List.take_succ_cons,List.take_zero,List.drop_succ_cons,List.drop_zero]
 repeat still_step
 refine wpStill_nil ?_
 go_wp2_with (go_at_call 124;refine (fget_c H.out _).mono ?_;rintro e w' ⟨rfl,nq,rfl⟩)
 go_ret
 refine ⟨?_,1+nq,rfl⟩
 show Ending.returned (.int .i64 (wrap64 c))=_
 rw [hw]
set_option maxHeartbeats 1000000 in
theorem get_k {c k v:Int} (h:Fit c k v) (W:World) (he:Env W) :
  Calls Tryz.prog 85 #[.int .u64 (gI c k v),.int .i64 1] W fun e w'=>e = .returned (.int .i64 k)/\∃ n,w'=W.drewN n:=by
 have H:=Lib.hid h
 obtain ⟨b0,b1,b2,b3,b4,b5⟩:=h
 have x0:=he.c3
 have x1:=he.c4
 have hw:wrap64 k=k:=IntWalk.wrap64_in _ (by omega)
 clear he b0 b1 b2 b3 b4 b5
 go_enter Tryz.func85,Tryz.ntmps85
 go_wp2_with fail
 refine region_still_tail 9 (by kernel_rfl) (by kernel_rfl) W.drew rfl ?_
 simp only [List.take_succ_cons,List.take_zero,List.drop_succ_cons,List.drop_zero]
 repeat still_step
 refine wpStill_nil ?_
 go_wp2_with (go_at_call 124;refine (fget_k H.out _).mono ?_;rintro e w' ⟨rfl,nq,rfl⟩)
 go_ret
 refine ⟨?_,1+nq,rfl⟩
 show Ending.returned (.int .i64 (wrap64 k))=_
 rw [hw]
set_option maxHeartbeats 1000000 in
theorem get_v {c k v:Int} (h:Fit c k v) (W:World) (he:Env W) :
  Calls Tryz.prog 85 #[.int .u64 (gI c k v),.int .i64 2] W fun e w'=>e = .returned (.int .i64 v)/\∃ n,w'=W.drewN n:=by
 have H:=Lib.hid h
 obtain ⟨b0,b1,b2,b3,b4,b5⟩:=h
 have x0:=he.c6
 have x1:=he.c7
 have hw:wrap64 v=v:=IntWalk.wrap64_in _ (by omega)
 clear he b0 b1 b2 b3 b4 b5
 go_enter Tryz.func85,Tryz.ntmps85
 go_wp2_with fail
 refine region_still_tail 9 (by kernel_rfl) (by kernel_rfl) W.drew rfl ?_
 simp only [List.take_succ_cons,List.take_zero,List.drop_succ_cons,List.drop_zero]
 repeat still_step
 refine wpStill_nil ?_
 go_wp2_with (go_at_call 124;refine (fget_v H.out _).mono ?_;rintro e w' ⟨rfl,nq,rfl⟩)
 go_ret
 refine ⟨?_,1+nq,rfl⟩
 show Ending.returned (.int .i64 (wrap64 v))=_
 rw [hw]
set_option maxHeartbeats 1000000 in
theorem put_c {c k v n:Int} (h:Fit c k v) (h0:0<=n) (h1:n < 1099511627776) (W:World) (he:Env W) :
  Calls Tryz.prog 153 #[.int .u64 (gI c k v),.int .i64 0,.int .i64 n] W fun e w'=>e = .returned (.int .u64 (gI n k v))/\∃ n,w'=W.drewN n:=by
 have H:=Lib.hid h
 have H0:=Lib.hid h0
 have H1:=Lib.hid h1
 have x0:=he.c0
 have x1:=he.c1
 have hw:IntKind.u64.wrap n=n:=by rw [IntKind.wrap_u64];omega
 clear he h
 go_enter Tryz.func153,Tryz.ntmps153
 go_wp2_with fail
 refine region_still_tail 11 (by kernel_rfl) (by kernel_rfl) W.drew rfl ?_
 simp only [List.take_succ_cons,List.take_zero,List.drop_succ_cons,List.drop_zero]
 repeat still_step
 refine wpStill_nil ?_
 go_wp2_with (go_at_call 207;refine (fput_c H.out H0.out H1.out _).mono ?_;rintro e w' ⟨rfl,nq,rfl⟩)
 go_ret
 exact ⟨rfl,1+nq,rfl⟩
set_option maxHeartbeats 1000000 in
theorem put_v {c k v n:Int} (h:Fit c k v) (h0:0<=n) (h1:n < 4096) (W:World) (he:Env W) :
  Calls Tryz.prog 153 #[.int .u64 (gI c k v),.int .i64 2,.int .i64 n] W fun e w'=>e = .returned (.int .u64 (gI c k n))/\∃ n,w'=W.drewN n:=by
 have H:=Lib.hid h
 have H0:=Lib.hid h0
 have H1:=Lib.hid h1
 have x0:=he.c6
 have x1:=he.c7
 have hw:IntKind.u64.wrap n=n:=by rw [IntKind.wrap_u64];omega
 clear he h
 go_enter Tryz.func153,Tryz.ntmps153
 go_wp2_with fail
 refine region_still_tail 11 (by kernel_rfl) (by kernel_rfl) W.drew rfl ?_
 simp only [List.take_succ_cons,List.take_zero,List.drop_succ_cons,List.drop_zero]
 repeat still_step
 refine wpStill_nil ?_
 go_wp2_with (go_at_call 207;refine (fput_v H.out H0.out H1.out _).mono ?_;rintro e w' ⟨rfl,nq,rfl⟩)
 go_ret
 exact ⟨rfl,1+nq,rfl⟩
end Ga
end Go.Proofs.YtcockldefmmhbaaGreatDoor
set_option linter.unusedVariables false
set_option linter.unusedSimpArgs false
set_option maxRecDepth 100000
namespace Go.Proofs.YtcockldefmmhbaaGreatDoor
open Go.ChangeShapes Go.WideShapes Go.ChangeAt Go.RowKit Go.Mtl
namespace Fl
open FloM (gI Fit)
theorem gParts:Tryz.prog.globalNamed "mantlet/flow.parts" = some 2:=by kernel_rfl
structure Env (w:World):Prop where
 c0:w.cell? ⟨2,0,none⟩=some (.int .i64 0)
 c1:w.cell? ⟨2,1,none⟩=some (.int .i64 40)
 c2:w.cell? ⟨2,2,none⟩=some (.int .i64 1099511627775)
 c3:w.cell? ⟨2,3,none⟩=some (.int .i64 40)
 c4:w.cell? ⟨2,4,none⟩=some (.int .i64 20)
 c5:w.cell? ⟨2,5,none⟩=some (.int .i64 1048575)
 c6:w.cell? ⟨2,6,none⟩=some (.int .i64 60)
 c7:w.cell? ⟨2,7,none⟩=some (.int .i64 4)
 c8:w.cell? ⟨2,8,none⟩=some (.int .i64 15)
theorem Env.lt {w:World} (h:Env w):2 < w.heap.size:=World.block_lt_of_cell? _ _ h.c0
theorem Env.below {w w':World} (h:Env w) {B:Nat} (hb:Below B w w') (hB:w.heap.size<=B):Env w':=by
 have hlt:=h.lt
 have k:∀ i,w'.cell? ⟨2,i,none⟩=w.cell? ⟨2,i,none⟩:=fun i=>hb.cell (Nat.lt_of_lt_of_le hlt hB)
 exact ⟨(k 0).trans h.c0,(k 1).trans h.c1,(k 2).trans h.c2,(k 3).trans h.c3,(k 4).trans h.c4,(k 5).trans h.c5,(k 6).trans h.c6,(k 7).trans h.c7,(k 8).trans h.c8⟩
theorem Env.alloc {w:World} (h:Env w) (o:Obj):Env (w.alloc o):=h.below ((Below.refl _ _).alloc (Nat.le_refl _) o) (Nat.le_refl _)
theorem Env.drewN {w:World} (h:Env w) (n:Nat):Env (w.drewN n):=⟨h.c0,h.c1,h.c2,h.c3,h.c4,h.c5,h.c6,h.c7,h.c8⟩
theorem fget_c {c k v:Int} (h:Fit c k v) (W:World) :
  Calls Tryz.prog 124 #[.int .u64 (gI c k v),.int .i64 0,.int .i64 40] W fun e w'=>e = .returned (.int .u64 c)/\∃ n,w'=W.drewN n:=by
 have:=Fld.get_yes (gI c k v) 0 40 (FloM.gI_lo h) (FloM.gI_hi h) (by omega) (by omega) (by omega) W
 unfold Fld.getI at this
 rwa [FloM.get_c h] at this
theorem fget_k {c k v:Int} (h:Fit c k v) (W:World) :
  Calls Tryz.prog 124 #[.int .u64 (gI c k v),.int .i64 40,.int .i64 20] W fun e w'=>e = .returned (.int .u64 k)/\∃ n,w'=W.drewN n:=by
 have:=Fld.get_yes (gI c k v) 40 20 (FloM.gI_lo h) (FloM.gI_hi h) (by omega) (by omega) (by omega) W
 unfold Fld.getI at this
 rwa [FloM.get_k h] at this
theorem fget_v {c k v:Int} (h:Fit c k v) (W:World) :
  Calls Tryz.prog 124 #[.int .u64 (gI c k v),.int .i64 60,.int .i64 4] W fun e w'=>e = .returned (.int .u64 v)/\∃ n,w'=W.drewN n:=by
 have:=Fld.get_yes (gI c k v) 60 4 (FloM.gI_lo h) (FloM.gI_hi h) (by omega) (by omega) (by omega) W
 unfold Fld.getI at this
 rwa [FloM.get_v h] at this
theorem fput_c {c k v n:Int} (h:Fit c k v) (h0:0<=n) (h1:n < 1099511627776) (W:World) :
  Calls Tryz.prog 207 #[.int .u64 (gI c k v),.int .i64 0,.int .i64 40,.int .u64 n] W fun e w'=>e = .returned (.int .u64 (gI n k v))/\∃ n,w'=W.drewN n:=by
 have:=Fld.put_yes (gI c k v) 0 40 n (FloM.gI_lo h) (FloM.gI_hi h) h0 (by omega) (by omega) (by omega) (by omega) W
 unfold Fld.putI at this
 rwa [FloM.put_c h h0 h1] at this
theorem fput_v {c k v n:Int} (h:Fit c k v) (h0:0<=n) (h1:n < 18446744073709551616) (W:World) :
  Calls Tryz.prog 207 #[.int .u64 (gI c k v),.int .i64 60,.int .i64 4,.int .u64 n] W fun e w'=>e = .returned (.int .u64 (gI c k (n % 16)))/\∃ n,w'=W.drewN n:=by
 have:=Fld.put_yes (gI c k v) 60 4 n (FloM.gI_lo h) (FloM.gI_hi h) h0 (by omega) (by omega) (by omega) (by omega) W
 unfold Fld.putI at this
 rwa [FloM.put_v h h0] at this
set_option maxHeartbeats 1000000 in
theorem get_c {c k v:Int} (h:Fit c k v) (W:World) (he:Env W) :
  Calls Tryz.prog 253 #[.int .u64 (gI c k v),.int .i64 0] W fun e w'=>e = .returned (.int .i64 c)/\∃ n,w'=W.drewN n:=by
 have H:=Lib.hid h
 obtain ⟨b0,b1,b2,b3,b4,b5⟩:=h
 have x0:=he.c0
 have x1:=he.c1
 have hw:wrap64 c=c:=IntWalk.wrap64_in _ (by omega)
 clear he b0 b1 b2 b3 b4 b5
 go_enter Tryz.func253,Tryz.ntmps253
 go_wp2_with fail
 refine region_still_tail 9 (by kernel_rfl) (by kernel_rfl) W.drew rfl ?_
 simp only [List.take_succ_cons,List.take_zero,List.drop_succ_cons,List.drop_zero]
 repeat still_step
 refine wpStill_nil ?_
 go_wp2_with (go_at_call 124;refine (fget_c H.out _).mono ?_;rintro e w' ⟨rfl,nq,rfl⟩)
 go_ret
 refine ⟨?_,1+nq,rfl⟩
 show Ending.returned (.int .i64 (wrap64 c))=_
 rw [hw]
set_option maxHeartbeats 1000000 in
theorem get_k {c k v:Int} (h:Fit c k v) (W:World) (he:Env W) :
  Calls Tryz.prog 253 #[.int .u64 (gI c k v),.int .i64 1] W fun e w'=>e = .returned (.int .i64 k)/\∃ n,w'=W.drewN n:=by
 have H:=Lib.hid h
 obtain ⟨b0,b1,b2,b3,b4,b5⟩:=h
 have x0:=he.c3
 have x1:=he.c4
 have hw:wrap64 k=k:=IntWalk.wrap64_in _ (by omega)
 clear he b0 b1 b2 b3 b4 b5
 go_enter Tryz.func253,Tryz.ntmps253
 go_wp2_with fail
 refine region_still_tail 9 (by kernel_rfl) (by kernel_rfl) W.drew rfl ?_
 simp only [List.take_succ_cons,List.take_zero,List.drop_succ_cons,List.drop_zero]
 repeat still_step
 refine wpStill_nil ?_
 go_wp2_with (go_at_call 124;refine (fget_k H.out _).mono ?_;rintro e w' ⟨rfl,nq,rfl⟩)
 go_ret
 refine ⟨?_,1+nq,rfl⟩
 show Ending.returned (.int .i64 (wrap64 k))=_
 rw [hw]
set_option maxHeartbeats 1000000 in
theorem get_v {c k v:Int} (h:Fit c k v) (W:World) (he:Env W) :
  Calls Tryz.prog 253 #[.int .u64 (gI c k v),.int .i64 2] W fun e w'=>e = .returned (.int .i64 v)/\∃ n,w'=W.drewN n:=by
 have H:=Lib.hid h
 obtain ⟨b0,b1,b2,b3,b4,b5⟩:=h
 have x0:=he.c6
 have x1:=he.c7
 have hw:wrap64 v=v:=IntWalk.wrap64_in _ (by omega)
 clear he b0 b1 b2 b3 b4 b5
 go_enter Tryz.func253,Tryz.ntmps253
 go_wp2_with fail
 refine region_still_tail 9 (by kernel_rfl) (by kernel_rfl) W.drew rfl ?_
 simp only [List.take_succ_cons,List.take_zero,List.drop_succ_cons,List.drop_zero]
 repeat still_step
 refine wpStill_nil ?_
 go_wp2_with (go_at_call 124;refine (fget_v H.out _).mono ?_;rintro e w' ⟨rfl,nq,rfl⟩)
 go_ret
 refine ⟨?_,1+nq,rfl⟩
 show Ending.returned (.int .i64 (wrap64 v))=_
 rw [hw]
set_option maxHeartbeats 1000000 in
theorem put_c {c k v n:Int} (h:Fit c k v) (h0:0<=n) (h1:n < 1099511627776) (W:World) (he:Env W) :
  Calls Tryz.prog 222 #[.int .u64 (gI c k v),.int .i64 0,.int .i64 n] W fun e w'=>e = .returned (.int .u64 (gI n k v))/\∃ n,w'=W.drewN n:=by
 have H:=Lib.hid h
 have H0:=Lib.hid h0
 have H1:=Lib.hid h1
 have x0:=he.c0
 have x1:=he.c1
 have hw:IntKind.u64.wrap n=n:=by rw [IntKind.wrap_u64];omega
 clear he h
 go_enter Tryz.func222,Tryz.ntmps222
 go_wp2_with fail
 refine region_still_tail 11 (by kernel_rfl) (by kernel_rfl) W.drew rfl ?_
 simp only [List.take_succ_cons,List.take_zero,List.drop_succ_cons,List.drop_zero]
 repeat still_step
 refine wpStill_nil ?_
 go_wp2_with (go_at_call 207;refine (fput_c H.out H0.out H1.out _).mono ?_;rintro e w' ⟨rfl,nq,rfl⟩)
 go_ret
 exact ⟨rfl,1+nq,rfl⟩
set_option maxHeartbeats 1000000 in
theorem put_v {c k v n:Int} (h:Fit c k v) (W:World) (he:Env W) :
  Calls Tryz.prog 222 #[.int .u64 (gI c k v),.int .i64 2,.int .i64 n] W fun e w'=>e = .returned (.int .u64 (gI c k (n % 16)))/\∃ n,w'=W.drewN n:=by
 have H:=Lib.hid h
 have hb:0<=IntKind.u64.wrap n/\IntKind.u64.wrap n < 18446744073709551616:=by rw [IntKind.wrap_u64];omega
 have hq:IntKind.u64.wrap n % 16=n % 16:=by rw [IntKind.wrap_u64];omega
 have HC:=Lib.hid (fun W=>fput_v (n:=IntKind.u64.wrap n) h hb.1 hb.2 W)
 rw [hq] at HC
 have x0:=he.c6
 have x1:=he.c7
 clear he h hb hq
 go_enter Tryz.func222,Tryz.ntmps222
 go_wp2_with fail
 refine region_still_tail 11 (by kernel_rfl) (by kernel_rfl) W.drew rfl ?_
 simp only [List.take_succ_cons,List.take_zero,List.drop_succ_cons,List.drop_zero]
 repeat still_step
 refine wpStill_nil ?_
 go_wp2_with (go_at_call 207;refine (HC.out _).mono ?_;rintro e w' ⟨rfl,nq,rfl⟩)
 go_ret
 exact ⟨rfl,1+nq,rfl⟩
end Fl
end Go.Proofs.YtcockldefmmhbaaGreatDoor
set_option linter.unusedVariables false
set_option linter.unusedSimpArgs false
set_option maxRecDepth 100000
namespace Go.Proofs.YtcockldefmmhbaaGreatDoor
open Go.ChangeShapes Go.WideShapes Go.ChangeAt Go.RowKit Go.Mtl
namespace Fl
open FloM (gI Fit)
abbrev gtc (v k c:Int):Array Value:=#[.int .i64 v,.int .i64 k,.int .i64 c]
section
variable {w w':World} {g:Nat} {v k c:Int} {t:TypeId}
theorem gt_cells (H:Blk w g (gtc v k c) t):w.cell? ⟨g,0,none⟩=some (.int .i64 v)/\w.cell? ⟨g,1,none⟩=some (.int .i64 k)/\w.cell? ⟨g,2,none⟩=some (.int .i64 c):=by
 refine ⟨?_,?_,?_⟩ <;> exact H.cell _ _ rfl
abbrev storeG (w:World) (g:Nat) (v k c:Int):World:=((w.setCell ⟨g,0,none⟩ (.int .i64 v)).setCell ⟨g,1,none⟩ (.int .i64 k)).setCell ⟨g,2,none⟩ (.int .i64 c)
theorem gt_store (H:Blk w g (gtc v k c) t) (v' k' c':Int):Blk (storeG w g v' k' c') g (gtc v' k' c') t:=by
 have h0:=H.set' 0 (.int .i64 v') (cs':=gtc v' k c) rfl
 have h1:=h0.set' 1 (.int .i64 k') (cs':=gtc v' k' c) rfl
 exact h1.set' 2 (.int .i64 c') rfl
theorem below_storeG {B:Nat} {w0:World} (hb:Below B w0 w) (hg:B<=g) (a b d:Int):Below B w0 (storeG w g a b d) :=
 ((hb.setCell (p:=⟨g,0,none⟩) hg _).setCell (p:=⟨g,1,none⟩) hg _).setCell (p:=⟨g,2,none⟩) hg _
end
set_option maxHeartbeats 1000000 in
theorem unpack_any {c k v:Int} (h:Fit c k v) (W:World) (he:Env W) :
  Calls Tryz.prog 205 #[.int .u64 (gI c k v)] W fun e w'=>e = .returned (.agg (gtc v k c))/\Below W.heap.size W w':=by
 have H:=Lib.hid h
 have HE:=Lib.hid (he.alloc (.cells (gtc 0 0 0) 263))
 have HX:=Lib.hid (Blk.box W (gtc 0 0 0) 263)
 have HB:=Lib.hid ((Below.refl _ W).alloc (Nat.le_refl _) (.cells (gtc 0 0 0) 263))
 clear he h
 go_enter Tryz.func205,Tryz.ntmps205
 go_wp2_with fail
 go_at_call 253
 refine (get_v H.out _ HE.out).mono ?_
 rintro e w' ⟨rfl,n1,rfl⟩
 go_wp2_with fail
 go_at_call 253
 refine (get_k H.out _ (HE.out.drewN n1)).mono ?_
 rintro e w' ⟨rfl,n2,rfl⟩
 go_wp2_with fail
 go_at_call 253
 refine (get_c H.out _ (HE.out.drewN (n1+n2))).mono ?_
 rintro e w' ⟨rfl,n3,rfl⟩
 have f0:=(HX.out.drewN (n1+n2+n3)).frozen 0
 have f1:=(HX.out.drewN (n1+n2+n3)).frozen 1
 have f2:=(HX.out.drewN (n1+n2+n3)).frozen 2
 obtain ⟨y0,y1,y2⟩:=gt_cells (HX.out.drewN (n1+n2+n3))
 go_wp2_with fail
 have HR:=gt_store (HX.out.drewN (n1+n2+n3)) v k c
 obtain ⟨r0,r1,r2⟩:=gt_cells HR
 exact bodyPost_ret (v:=.agg (gtc v k c)) (by simp [results,Tryz.results205,go_sem,r0,r1,r2]) rfl ⟨rfl,below_storeG (HB.out.drews _) (by simp) _ _ _⟩
def St (c k v:Int) (j:Nat) (x:Int):Prop:=j=0/\x=gI 0 0 0\/j=1/\(0<=c/\c < 1099511627776)/\x=gI c 0 0\/j=2/\(0<=c/\c < 1099511627776)/\(0<=k/\k < 1048576)/\x=gI c k 0\/j=3/\(0<=c/\c < 1099511627776)/\(0<=k/\k < 1048576)/\(0<=v/\v < 16)/\x=gI c k v
end Fl
end Go.Proofs.YtcockldefmmhbaaGreatDoor
set_option linter.unusedVariables false
set_option linter.unusedSimpArgs false
set_option maxRecDepth 100000
namespace Go.Proofs.YtcockldefmmhbaaGreatDoor
open Go.ChangeShapes Go.WideShapes Go.ChangeAt Go.RowKit Go.Mtl
namespace Ga
open GatM (gI Fit)
set_option maxHeartbeats 1000000 in
theorem inc_v_no {c k v:Int} (h:Fit c k v) (hm:v=4095) (W:World) (he:Env W) :
  Calls Tryz.prog 220 #[.int .u64 (gI c k v),.int .i64 2] W fun e w'=>e = .returned (.tuple #[.int .u64 (gI c k v),.bool false])/\∃ n,w'=W.drewN n:=by
 have H:=Lib.hid h
 have HE:=Lib.hid he
 have x0:=he.c8
 have hd:(v == (4095:Int))=true:=by rw [hm];rfl
 clear he h hm
 go_enter Tryz.func220,Tryz.ntmps220
 go_wp2_with (go_at_call 85;refine (get_v H.out _ HE.out).mono ?_;rintro e w' ⟨rfl,nq,rfl⟩)
 go_ret2
 exact ⟨rfl,nq,rfl⟩
set_option maxHeartbeats 1000000 in
theorem inc_v_yes {c k v:Int} (h:Fit c k v) (hm:v≠4095) (W:World) (he:Env W) :
  Calls Tryz.prog 220 #[.int .u64 (gI c k v),.int .i64 2] W fun e w'=>e = .returned (.tuple #[.int .u64 (gI c k (v+1)),.bool true])/\∃ n,w'=W.drewN n:=by
 have H:=Lib.hid h
 have HE:=Lib.hid he
 have x0:=he.c8
 have hd:(v == (4095:Int))=false:=by simpa using hm
 obtain ⟨b0,b1,b2,b3,b4,b5⟩:=h
 have hw:wrap64 (v+1)=v+1:=IntWalk.wrap64_in _ (by omega)
 have H0:Hid (0<=v+1/\v+1 < 4096):=by show _/\_;omega
 clear he hm b0 b1 b2 b3 b4 b5
 go_enter Tryz.func220,Tryz.ntmps220
 go_wp2_with (go_at_call 85;refine (get_v H.out _ HE.out).mono ?_;rintro e w' ⟨rfl,nq,rfl⟩)
 go_at_call 153
 refine (put_v H.out H0.out.1 H0.out.2 _ (HE.out.drewN nq)).mono ?_
 rintro e w' ⟨rfl,nr,rfl⟩
 go_wp2_with fail
 go_ret2
 exact ⟨rfl,nq+nr,rfl⟩
set_option maxHeartbeats 1000000 in
theorem swap_no {c k v:Int} (h:Fit c k v) (hm:v=4095) (W:World) (he:Env W) :
  Calls Tryz.prog 163 #[.int .u64 (gI c k v)] W fun e w'=>e = .returned (.tuple #[.int .u64 (gI c k v),.bool false])/\∃ n,w'=W.drewN n:=by
 have H:=Lib.hid (inc_v_no h hm W he)
 clear h hm he
 go_enter Tryz.func163,Tryz.ntmps163
 go_wp2_with (go_at_call 220;refine H.out.mono ?_;rintro e w' ⟨rfl,nq,rfl⟩)
 go_ret2
 exact ⟨rfl,nq,rfl⟩
set_option maxHeartbeats 1000000 in
theorem swap_yes {c k v:Int} (h:Fit c k v) (hm:v≠4095) (W:World) (he:Env W) :
  Calls Tryz.prog 163 #[.int .u64 (gI c k v)] W fun e w'=>e = .returned (.tuple #[.int .u64 (gI c k (v+1)),.bool true])/\∃ n,w'=W.drewN n:=by
 have H:=Lib.hid (inc_v_yes h hm W he)
 clear h hm he
 go_enter Tryz.func163,Tryz.ntmps163
 go_wp2_with (go_at_call 220;refine H.out.mono ?_;rintro e w' ⟨rfl,nq,rfl⟩)
 go_ret2
 exact ⟨rfl,nq,rfl⟩
def later (c n:Int):Int:=if n<=0 then c else if 1099511627775 < c+n then 1099511627775 else c+n
theorem later_fit {c k v n:Int} (h:Fit c k v):0<=later c n/\later c n < 1099511627776/\c<=later c n:=by
 obtain ⟨_,_,_,_,_,_⟩:=h;unfold later
 split
 ·omega
 ·split <;> omega
theorem put_cx {c k v x:Int} (m:Int) (h:Fit c k v) (hx:x=m) (h0:0<=m) (h1:m < 1099511627776) (W:World) (he:Env W) :
  Calls Tryz.prog 153 #[.int .u64 (gI c k v),.int .i64 0,.int .i64 x] W fun e w'=>e = .returned (.int .u64 (gI m k v))/\∃ n,w'=W.drewN n:=by
 subst hx;exact put_c h h0 h1 W he
set_option maxHeartbeats 1000000 in
theorem tick_any {c k v n:Int} (h:Fit c k v) (hn0 : -9223372036854775808<=n) (hn1:n<=9223372036854775807) (W:World) (he:Env W) :
  Calls Tryz.prog 110 #[.int .u64 (gI c k v),.int .i64 n] W fun e w'=>e = .returned (.int .u64 (gI (later c n) k v))/\∃ n,w'=W.drewN n:=by
 have H:=Lib.hid h
 have HE:=Lib.hid he
 have x2:=he.c2
 have HL:=Lib.hid (later_fit (n:=n) h)
 obtain ⟨b0,b1,b2,b3,b4,b5⟩:=h
 have hw:wrap64 (1099511627775 - c)=1099511627775 - c:=IntWalk.wrap64_in _ (by omega)
 clear he
 go_enter Tryz.func110,Tryz.ntmps110
 go_wp2_with (go_at_call 85;refine (get_c H.out _ HE.out).mono ?_;rintro e w' ⟨rfl,nq,rfl⟩)
 all_goals go_at_call 153
 all_goals refine (put_cx (later c n) H.out ?_ HL.out.1 HL.out.2.1 _ (HE.out.drewN nq)).mono ?_
 all_goals first | (show _=later c n;unfold later;split <;> (try split) <;> omega) | skip
 all_goals rintro e w' ⟨rfl,nr,rfl⟩
 all_goals go_wp2_with fail
 all_goals go_ret
 all_goals exact ⟨rfl,nq+nr,rfl⟩
end Ga
end Go.Proofs.YtcockldefmmhbaaGreatDoor
set_option linter.unusedVariables false
set_option linter.unusedSimpArgs false
set_option maxRecDepth 100000
namespace Go.Proofs.YtcockldefmmhbaaGreatDoor
open Go.ChangeShapes Go.WideShapes Go.ChangeAt Go.RowKit Go.Mtl
namespace Ga
open GatM (gI Fit)
abbrev gtc (v k c:Int):Array Value:=#[.int .i64 v,.int .i64 k,.int .i64 c]
section
variable {w w':World} {g:Nat} {v k c:Int} {t:TypeId}
theorem gt_cells (H:Blk w g (gtc v k c) t):w.cell? ⟨g,0,none⟩=some (.int .i64 v)/\w.cell? ⟨g,1,none⟩=some (.int .i64 k)/\w.cell? ⟨g,2,none⟩=some (.int .i64 c):=by
 refine ⟨?_,?_,?_⟩ <;> exact H.cell _ _ rfl
abbrev storeG (w:World) (g:Nat) (v k c:Int):World:=((w.setCell ⟨g,0,none⟩ (.int .i64 v)).setCell ⟨g,1,none⟩ (.int .i64 k)).setCell ⟨g,2,none⟩ (.int .i64 c)
theorem gt_store (H:Blk w g (gtc v k c) t) (v' k' c':Int):Blk (storeG w g v' k' c') g (gtc v' k' c') t:=by
 have h0:=H.set' 0 (.int .i64 v') (cs':=gtc v' k c) rfl
 have h1:=h0.set' 1 (.int .i64 k') (cs':=gtc v' k' c) rfl
 exact h1.set' 2 (.int .i64 c') rfl
theorem below_storeG {B:Nat} {w0:World} (hb:Below B w0 w) (hg:B<=g) (a b d:Int):Below B w0 (storeG w g a b d) :=
 ((hb.setCell (p:=⟨g,0,none⟩) hg _).setCell (p:=⟨g,1,none⟩) hg _).setCell (p:=⟨g,2,none⟩) hg _
end
set_option maxHeartbeats 1000000 in
theorem unpack_any {c k v:Int} (h:Fit c k v) (W:World) (he:Env W) :
  Calls Tryz.prog 46 #[.int .u64 (gI c k v)] W fun e w'=>e = .returned (.agg (gtc v k c))/\Below W.heap.size W w':=by
 have H:=Lib.hid h
 have HE:=Lib.hid (he.alloc (.cells (gtc 0 0 0) 45))
 have HX:=Lib.hid (Blk.box W (gtc 0 0 0) 45)
 have HB:=Lib.hid ((Below.refl _ W).alloc (Nat.le_refl _) (.cells (gtc 0 0 0) 45))
 clear he h
 go_enter Tryz.func46,Tryz.ntmps46
 go_wp2_with fail
 go_at_call 85
 refine (get_v H.out _ HE.out).mono ?_
 rintro e w' ⟨rfl,n1,rfl⟩
 go_wp2_with fail
 go_at_call 85
 refine (get_k H.out _ (HE.out.drewN n1)).mono ?_
 rintro e w' ⟨rfl,n2,rfl⟩
 go_wp2_with fail
 go_at_call 85
 refine (get_c H.out _ (HE.out.drewN (n1+n2))).mono ?_
 rintro e w' ⟨rfl,n3,rfl⟩
 have f0:=(HX.out.drewN (n1+n2+n3)).frozen 0
 have f1:=(HX.out.drewN (n1+n2+n3)).frozen 1
 have f2:=(HX.out.drewN (n1+n2+n3)).frozen 2
 obtain ⟨y0,y1,y2⟩:=gt_cells (HX.out.drewN (n1+n2+n3))
 go_wp2_with fail
 have HR:=gt_store (HX.out.drewN (n1+n2+n3)) v k c
 obtain ⟨r0,r1,r2⟩:=gt_cells HR
 exact bodyPost_ret (v:=.agg (gtc v k c)) (by simp [results,Tryz.results46,go_sem,r0,r1,r2]) rfl ⟨rfl,below_storeG (HB.out.drews _) (by simp) _ _ _⟩
def St (c k v:Int) (j:Nat) (x:Int):Prop:=j=0/\x=gI 0 0 0\/j=1/\(0<=c/\c < 1099511627776)/\x=gI c 0 0\/j=2/\(0<=c/\c < 1099511627776)/\(0<=k/\k < 4096)/\x=gI c k 0\/j=3/\(0<=c/\c < 1099511627776)/\(0<=k/\k < 4096)/\(0<=v/\v < 4096)/\x=gI c k v
end Ga
end Go.Proofs.YtcockldefmmhbaaGreatDoor
set_option linter.unusedVariables false
set_option linter.unusedSimpArgs false
set_option maxRecDepth 100000
namespace Go.Proofs.YtcockldefmmhbaaGreatDoor
open Go.ChangeShapes Go.WideShapes Go.ChangeAt Go.RowKit Go.Mtl
namespace Ga
open GatM (gI Fit)
end Ga
end Go.Proofs.YtcockldefmmhbaaGreatDoor
set_option linter.unusedVariables false
set_option linter.unusedSimpArgs false
set_option maxRecDepth 100000
namespace Go.Proofs.YtcockldefmmhbaaGreatDoor
open Go.ChangeShapes Go.WideShapes Go.ChangeAt Go.RowKit Go.Mtl
namespace Ga
open GatM (gI Fit)
theorem quiet_below {P:Program} {f:FuncId} {args:Array Value} {w:World} {v:Value} (h:Calls P f args w fun e w'=>e = .returned v/\∃ n,w'=w.drewN n):Calls P f args w fun e w'=>e = .returned v/\Below w.heap.size w w' :=
 h.mono fun _ _ ⟨a,n,b⟩=>⟨a,b ▸ (Below.refl _ w).drews n⟩
structure Step (c k v:Int) (ok:Bool) (c' k' v':Int) (x:Prop):Prop where
 fit:Fit c' k' v'
 no:ok=false->c'=c/\k'=k/\v'=v/\¬ x
 yes:ok=true->x
abbrev stepV (ok:Bool) (c k v:Int):Value:=.tuple #[.int .u64 (gI c k v),.bool ok]
def SW (v:Int) (ok:Bool) (v':Int):Prop:=ok=true/\v'=v+1/\v≠4095\/ok=false/\v'=v/\v=4095
section
variable {c k v l:Int} {ok:Bool} {x:Int}
theorem swap_any (h:Fit c k v) (hs:SW v ok x) (W:World) (he:Env W) :
  Calls Tryz.prog 163 #[.int .u64 (gI c k v)] W fun e w'=>e = .returned (stepV ok c k x)/\Below W.heap.size W w':=by
 rcases hs with ⟨rfl,rfl,h1⟩ | ⟨rfl,rfl,h1⟩
 ·exact quiet_below (swap_yes h h1 W he)
 ·exact quiet_below (swap_no h h1 W he)
end
end Ga
end Go.Proofs.YtcockldefmmhbaaGreatDoor
