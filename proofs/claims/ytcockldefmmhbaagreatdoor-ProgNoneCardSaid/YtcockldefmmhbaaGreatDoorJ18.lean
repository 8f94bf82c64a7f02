/- Several texts of this proof in one file, each in its own namespace. -/
import Derived.Test.YtcockldefmmhbaaGreatDoorSq
import Derived.Test.YtcockldefmmhbaaGreatDoorJ15
import Derived.Deep.RegionHeld3
import Derived.Deep.RegionHeldLaw
set_option linter.unusedVariables false
set_option maxRecDepth 100000
set_option linter.unusedSimpArgs false
namespace Go.Proofs.YtcockldefmmhbaaGreatDoor
open Go.ChangeShapes Go.WideShapes Go.ChangeAt Go.RowKit Go.Mtl Go.Shelf Go.Sort Go.Lib
namespace Ad
open AdrM (byteS byteS_some byteS_le parseS printS validS showS hasS netS)
theorem quiet_is {P:Program} {f:FuncId} {args:Array Value} {w:World} {v:Value} (h:Calls P f args w fun e w'=>e = .returned v/\w=w'):Calls P f args w fun e w'=>e = .returned v/\w'=w :=
 h.mono fun _ _ ⟨he,hw⟩=>⟨he,hw.symm⟩
theorem mask_fin:∀ k:Fin 33,4294967295 * 2 ^ k.val % 4294967296=4294967296 - 2 ^ k.val:=by decide +kernel
theorem and_mask (a k:Nat) (ha:a < 4294967296) (hk:k<=32):a &&& (4294967296 - 2 ^ k)=a - a % 2 ^ k:=by
 have e1:4294967296 - 2 ^ k=2 ^ k * (2 ^ (32 - k) - 1):=by
  rw [Nat.mul_sub,← Nat.pow_add,show k+(32 - k)=32 by omega,Nat.mul_one]
 have e2:a - a % 2 ^ k=2 ^ k * (a / 2 ^ k):=by have:=Nat.div_add_mod a (2 ^ k);omega
 rw [e1,e2]
 apply Nat.eq_of_testBit_eq
 intro i
 rw [Nat.testBit_and,Nat.testBit_two_pow_mul,Nat.testBit_two_pow_sub_one,Nat.testBit_two_pow_mul,Nat.testBit_div_two_pow]
 by_cases hi:k<=i
 ·rw [show i - k+k=i by omega]
  by_cases h32:i < 32
  ·simp [hi,show i - k < 32 - k by omega]
  ·have:a.testBit i=false:=Nat.testBit_lt_two_pow (Nat.lt_of_lt_of_le ha (Nat.pow_le_pow_right (show 0 < 2 by omega) (show 32<=i by omega)))
   simp [this]
 ·simp [hi]
theorem ret_int {k:IntKind} {a b:Int} (h:a=b):Ending.returned (.int k a) = .returned (.int k b):=by rw [h]
theorem ret_bool {a b:Bool} (h:a=b):Ending.returned (.bool a) = .returned (.bool b):=by rw [h]
theorem valid_is (a:Nat) (n:Int) (h0:0<=n) (h1:n<=32):((a:Int) == ((a - a % 2 ^ (32 - n.toNat):Nat):Int))=validS a n:=by
 unfold validS
 rw [decide_eq_true ⟨h0,h1⟩,Bool.true_and,Bool.eq_iff_iff,beq_iff_eq,beq_iff_eq]
 have:=Nat.mod_le a (2 ^ (32 - n.toNat))
 omega
theorem valid_no (a:Nat) (n:Int) (h : ¬ (0<=n/\n<=32)):validS a n=false:=by
 unfold validS
 rw [decide_eq_false h,Bool.false_and]
abbrev boxed (w:World) (a n:Int):World:=w.alloc (.cells #[.int .u32 a,.int .i64 n] 75)
theorem boxed_below (w:World) (a n:Int) (k:Nat):Below w.heap.size w ((boxed w a n).drewN k):=(((Below.refl _ _).alloc (Nat.le_refl _) _).trans ((below_drewN _ k).mono (by simp)))
theorem highest_is (a:Nat) (n:Int) (ha:a < 4294967296) (h0:0<=n) (h1:n<=32) :
  bits .and .u32 (a:Int) (4294967295 * 2 ^ (32 - n).toNat % 4294967296)=((a - a % 2 ^ (32 - n.toNat):Nat):Int):=by
 have e:(32 - n).toNat=32 - n.toNat:=by omega
 have hm:=mask_fin ⟨32 - n.toNat,by omega⟩
 have hp:2 ^ (32 - n.toNat)<=2 ^ 32:=Nat.pow_le_pow_right (by omega) (by omega)
 simp only [] at hm
 have hz:(4294967295 * 2 ^ (32 - n).toNat % 4294967296:Int)=((4294967296 - 2 ^ (32 - n.toNat):Nat):Int):=by
  rw [e,← hm];simp
 rw [hz,u32_and_nat _ _ ha (by have:=Nat.pow_pos (n:=32 - n.toNat) (show 0 < 2 by omega);omega),and_mask a _ ha (by omega)]
theorem highest_any (a:Nat) (n:Int) (ha:a < 4294967296) (h0:0<=n) (h1:n<=32) (w:World) :
  Calls Tryz.prog 267 #[.int .u32 (a:Int),.int .i64 n] w fun e w'=>e = .returned (.int .u32 ((a - a % 2 ^ (32 - n.toNat):Nat):Int))/\w=w':=by
 go_enter Tryz.func267,Tryz.ntmps267
 go_wp2
 go_ret
 exact ⟨ret_int (highest_is a n ha h0 h1),rfl⟩
theorem valid_any (a:Nat) (n:Int) (ha:a < 4294967296) (w:World) :
  Calls Tryz.prog 217 #[.agg #[.int .u32 (a:Int),.int .i64 n]] w fun e w'=>e = .returned (.bool (validS a n))/\Below w.heap.size w w':=by
 by_cases h0:0<=n
 ·by_cases h1:n<=32
  ·have HV:=Lib.hid (valid_is a n h0 h1)
   go_enter Tryz.func217,Tryz.ntmps217
   go_wp2
   go_quiet ((go_at_call 267;exact Calls.quiet_of_same (quiet_is (highest_any a n ha h0 h1 _))))
   go_wp2
   go_ret
   exact ⟨ret_bool HV.out,boxed_below _ _ _ _⟩
  ·have HV:=Lib.hid (valid_no a n (by omega))
   have hd:decide (n<=32)=false:=by simpa using h1
   clear h1
   go_enter Tryz.func217,Tryz.ntmps217
   go_wp2
   go_quiet (fail)
   go_wp2
   go_ret
   exact ⟨ret_bool HV.out.symm,boxed_below _ _ _ _⟩
 ·have HV:=Lib.hid (valid_no a n (by omega))
  have hd:decide (0<=n)=false:=by simpa using h0
  clear h0
  go_enter Tryz.func217,Tryz.ntmps217
  go_wp2
  go_quiet (fail)
  go_wp2
  go_ret
  exact ⟨ret_bool HV.out.symm,boxed_below _ _ _ _⟩
def NetAt (w:World) (a n:Int) (w1:World):Prop :=
 w1.cell? ⟨w.heap.size,0,none⟩=some (.int .u32 a)/\w1.cell? ⟨w.heap.size,1,none⟩=some (.int .i64 n)/\Below w.heap.size w w1/\w.heap.size < w1.heap.size
theorem netAt_box (w:World) (a n:Int):NetAt w a n (boxed w a n) :=
 ⟨by rw [cell_of_row _ _ _ _ _ _ (row_of _ _)];rfl,by rw [cell_of_row _ _ _ _ _ _ (row_of _ _)];rfl,(Below.refl _ _).alloc (Nat.le_refl _) _,by simp⟩
theorem NetAt.next {w w1 w2:World} {a n:Int} (h:NetAt w a n w1) (hb:Below w1.heap.size w1 w2):NetAt w a n w2 :=
 ⟨(hb.cell h.2.2.2).trans h.1,(hb.cell h.2.2.2).trans h.2.1,h.2.2.1.trans (hb.mono (by have:=h.2.2.2;omega)),by have:=h.2.2.2;have:=hb.size;omega⟩
theorem NetAt.go {w w1 w2:World} {a n:Int} (h:Hid (NetAt w a n w1)) (hb:Below w1.heap.size w1 w2) :
  w2.cell? ⟨w.heap.size,0,none⟩=some (.int .u32 a)/\w2.cell? ⟨w.heap.size,1,none⟩=some (.int .i64 n)/\Hid (NetAt w a n w2) :=
 ⟨(h.out.next hb).1,(h.out.next hb).2.1,h.out.next hb⟩
theorem NetAt.goh {w w1 w2:World} {a n:Int} (h:w1.cell? ⟨w.heap.size,0,none⟩=some (.int .u32 a)/\w1.cell? ⟨w.heap.size,1,none⟩=some (.int .i64 n)/\Hid (NetAt w a n w1)) (hb:Below w1.heap.size w1 w2) :
  w2.cell? ⟨w.heap.size,0,none⟩=some (.int .u32 a)/\w2.cell? ⟨w.heap.size,1,none⟩=some (.int .i64 n)/\Hid (NetAt w a n w2):=NetAt.go h.2.2 hb
theorem NetAt.god {w w1:World} {a n:Int} (h:Hid (NetAt w a n w1)) :
  w1.drew.cell? ⟨w.heap.size,0,none⟩=some (.int .u32 a)/\w1.drew.cell? ⟨w.heap.size,1,none⟩=some (.int .i64 n)/\Hid (NetAt w a n w1.drew) :=
 ⟨h.out.1,h.out.2.1,h.out.1,h.out.2.1,h.out.2.2.1.drew,h.out.2.2.2⟩
theorem itoa_any (n:Int) (h0:0<=n) (h1:n<=99) (w:World):Calls Tryz.prog 244 #[.int .i64 n] w fun e w'=>e = .returned (.string ⟨(decDigits n.toNat).toArray⟩)/\w=w':=by
 obtain ⟨i,rfl⟩:=Int.eq_ofNat_of_zero_le h0
 exact (Tryz.strconv_Itoa_small i (by omega) w).mono fun _ _ ⟨he,hw⟩=>⟨he,hw.symm⟩
theorem add_text {P:Program} (x y:List UInt8) (hx:x.length<=1000000) (hy:y.length<=1000000) (W:World) :
  (Op.stringOp .add ⟨x.toArray⟩ ⟨y.toArray⟩).run P W = .ok (.string ⟨(x ++ y).toArray⟩) W:=run_string_add_lists W x y (by omega) (by omega)
def showRes (a:Nat) (n:Int):Value:=match showS a n with
 | some t=>.tuple #[.string ⟨t.toArray⟩,.int .i64 0]
 | none=>.tuple #[.string ⟨#[]⟩,.int .i64 1]
theorem showRes_bad {a:Nat} {n:Int} (h:validS a n=false):showRes a n = .tuple #[.string ⟨#[]⟩,.int .i64 1]:=by
 unfold showRes showS;rw [if_neg (by rw [h];simp)]
theorem showRes_any {a:Nat} (h:validS a 0=true):showRes a 0 = .tuple #[.string ⟨AdrM.anyL.toArray⟩,.int .i64 0]:=by
 unfold showRes showS;rw [if_pos h];rfl
theorem showRes_net {a:Nat} {n:Int} (h:validS a n=true) (h0:n≠0):showRes a n = .tuple #[.string ⟨(printS a ++ (47 :: decDigits n.toNat)).toArray⟩,.int .i64 0]:=by
 unfold showRes showS;rw [if_pos h,if_neg h0]
set_option maxHeartbeats 2000000 in
theorem show_any (a:Nat) (n:Int) (ha:a < 4294967296) (w:World) (he:Env w) :
  Calls Tryz.prog 185 #[.agg #[.int .u32 (a:Int),.int .i64 n]] w fun e w'=>e = .returned (showRes a n)/\Below w.heap.size w w':=by
 have HV:=Lib.hid (fun W=>valid_any a n ha W)
 have HN:=Lib.hid (netAt_box w a n)
 cases hv:validS a n with
 | false =>
  rw [hv] at HV
  have HR:=Lib.hid (showRes_bad hv)
  clear hv
  go_enter Tryz.func185,Tryz.ntmps185
  go_wp2_with fail
  go_at_call 217
  refine (HV.out _).mono ?_
  rintro e w1 ⟨rfl,hb1⟩
  have HB:=Lib.hid (HN.out.next hb1)
  clear hb1
  go_wp2_with fail
  go_ret2
  exact ⟨by rw [HR.out];rfl,HB.out.2.2.1⟩
 | true =>
  rw [hv] at HV
  by_cases h0:n=0
  ·subst h0
   have HR:=Lib.hid (showRes_any hv)
   clear hv
   go_enter Tryz.func185,Tryz.ntmps185
   go_wp2_with fail
   go_at_call 217
   refine (HV.out _).mono ?_
   rintro e w1 ⟨rfl,hb1⟩
   obtain ⟨hc0,hc1,HB⟩:=NetAt.go HN hb1
   clear hb1
   go_wp2_with fail
   go_ret2
   exact ⟨by rw [HR.out];rfl,HB.out.2.2.1⟩
  ·have HR:=Lib.hid (showRes_net hv h0)
   have hn:=(AdrM.validS_mk.1 hv).1
   have HP:=Lib.hid (fun w1 (h:w1.cell? ⟨w.heap.size,0,none⟩=some (.int .u32 (a:Int))/\w1.cell? ⟨w.heap.size,1,none⟩=some (.int .i64 n)/\Hid (NetAt w a n w1))=>print_any a ha w1 (he.below h.2.2.out.2.2.1))
   have HI:=Lib.hid (fun w1=>itoa_any n hn.1 (by omega) w1)
   have hd:(n == 0)=false:=by simpa using h0
   have hl1:=AdrM.print_len a ha
   have hl2:=AdrM.decDigits_len_le 1 n.toNat (by omega)
   have hA1:=fun W=>add_text (P:=Tryz.prog) (printS a) [47] (by omega) (by simp) W
   have hA2:=fun W=>add_text (P:=Tryz.prog) (printS a ++ [47]) (decDigits n.toNat) (by simp;omega) (by omega) W
   have HR2:Hid (printS a ++ (47 :: decDigits n.toNat)=printS a ++ [47] ++ decDigits n.toNat):=by show _=_;simp
   clear hv he h0 hn hl1 hl2
   go_enter Tryz.func185,Tryz.ntmps185
   go_wp2_with fail
   go_at_call 217
   refine (HV.out _).mono ?_
   rintro e w1 ⟨rfl,hb1⟩
   obtain ⟨hc0,hc1,HB⟩:=NetAt.go HN hb1
   clear hb1
   go_wp2_with fail
   go_region_held3 (fun w'=>w'.cell? ⟨w.heap.size,0,none⟩=some (.int .u32 a)/\w'.cell? ⟨w.heap.size,1,none⟩=some (.int .i64 n)/\Hid (NetAt w a n w')) (first | exact NetAt.god (by assumption) | exact NetAt.goh (by assumption) (by assumption) | go_keep)
    (first
     | (go_at_call 243;refine (HP.out _ (by assumption)).mono ?_;rintro e w2 ⟨rfl,hbp⟩)
     | (go_at_call 244;refine (HI.out _).mono ?_;rintro e w' ⟨rfl,rfl⟩))
   go_wp2_with fail
   go_ret2
   have hh:w2.cell? ⟨w.heap.size,0,none⟩=some (.int .u32 (a:Int))/\w2.cell? ⟨w.heap.size,1,none⟩=some (.int .i64 n)/\Hid (NetAt w a n w2):=by assumption
   exact ⟨by rw [HR.out];rfl,hh.2.2.out.2.2.1⟩
theorem has_is (a x:Nat) (n:Int) (h:0<=n/\n<=32) (hv:validS a n=true):(((x - x % 2 ^ (32 - n.toNat):Nat):Int) == (a:Int))=hasS a n x:=by
 unfold hasS
 rw [hv,Bool.true_and,Bool.eq_iff_iff,beq_iff_eq,beq_iff_eq]
 have h1:=(AdrM.validS_mk.1 hv).2
 have h2:=Nat.div_add_mod x (2 ^ (32 - n.toNat))
 have h3:=Nat.div_add_mod a (2 ^ (32 - n.toNat))
 have h4:0 < 2 ^ (32 - n.toNat):=Nat.pow_pos (by omega)
 constructor
 ·intro e
  have:2 ^ (32 - n.toNat) * (x / 2 ^ (32 - n.toNat))=2 ^ (32 - n.toNat) * (a / 2 ^ (32 - n.toNat)):=by omega
  exact Nat.eq_of_mul_eq_mul_left h4 this
 ·intro e
  rw [e] at h2
  omega
set_option maxHeartbeats 2000000 in
theorem has_any (a x:Nat) (n:Int) (ha:a < 4294967296) (hx:x < 4294967296) (w:World) :
  Calls Tryz.prog 278 #[.agg #[.int .u32 (a:Int),.int .i64 n],.int .u32 (x:Int)] w fun e w'=>e = .returned (.bool (hasS a n x))/\Below w.heap.size w w':=by
 have HV:=Lib.hid (fun W=>valid_any a n ha W)
 have HN:=netAt_box w a n
 cases hv:validS a n with
 | false =>
  rw [hv] at HV
  have HR:Hid (hasS a n x=false):=by show _=_;unfold hasS;rw [hv];rfl
  have hc0:=HN.1
  have hc1:=HN.2.1
  have HNN:=Lib.hid HN
  clear hv HN
  go_enter Tryz.func278,Tryz.ntmps278
  go_wp2
  refine wp_region_held_drew (S:=fun w'=>w'.cell? ⟨w.heap.size,0,none⟩=some (.int .u32 a)/\w'.cell? ⟨w.heap.size,1,none⟩=some (.int .i64 n)/\Hid (NetAt w a n w')) (by kernel_rfl) (NetAt.god HNN) (fun hH=>?_)
  refine wpAnyH_take (i:=0) (oi:=⟨some 5,_,_,_,_,_⟩) (v:=.agg #[.int .u32 (a:Int),.int .i64 n]) rfl (by kernel_rfl) (by kernel_rfl) (by kernel_rfl) (fun _ _ _ h=>h) (Or.inl ⟨rfl,fun w' hS=>?c0⟩) hH ?_
  case c0=>(obtain ⟨hS0,hS1,_⟩:=hS;go_simp)
  simp only [Act.put,zq1,zq2,zq3]
  refine wpAnyH_ready (rs:=[1]) (by kernel_rfl) (by simp) (AllReadyH.cons rfl (fun K hK=>?_) AllReadyH.nil)
  go_simp
  go_at_call 217
  refine (HV.out _).mono ?_
  rintro e w2 ⟨rfl,hbp⟩
  refine hK.out _ _ (NetAt.goh hH hbp) (fun hH2=>?_)
  clear hK K hH
  refine wpAnyH_take (i:=2) (oi:=⟨some 7,_,_,_,_,_⟩) (v:=.bool false) rfl (by kernel_rfl) (by kernel_rfl) (by kernel_rfl) (fun _ _ _ h=>h) (Or.inl ⟨rfl,fun w' hS=>?c2⟩) hH2 ?_
  case c2=>go_simp
  simp only [Act.put,zq1,zq2,zq3]
  refine wpAnyH_take (i:=3) (oi:=⟨some 8,_,_,_,_,_⟩) (v:=undef) rfl (by kernel_rfl) (by kernel_rfl) (by kernel_rfl) (fun _ _ _ h=>h) (Or.inr ⟨rfl,rfl⟩) hH2 ?_
  simp only [Act.put,zq1,zq2,zq3]
  refine wpAnyH_take (i:=4) (oi:=⟨some 9,_,_,_,_,_⟩) (v:=undef) rfl (by kernel_rfl) (by kernel_rfl) (by kernel_rfl) (fun _ _ _ h=>h) (Or.inr ⟨rfl,rfl⟩) hH2 ?_
  simp only [Act.put,zq1,zq2,zq3]
  refine wpAnyH_take (i:=5) (oi:=⟨some 10,_,_,_,_,_⟩) (v:=undef) rfl (by kernel_rfl) (by kernel_rfl) (by kernel_rfl) (fun _ _ _ h=>h) (Or.inr ⟨rfl,rfl⟩) hH2 ?_
  simp only [Act.put,zq1,zq2,zq3]
  refine wpAnyH_take (i:=6) (oi:=⟨some 11,_,_,_,_,_⟩) (v:=undef) rfl (by kernel_rfl) (by kernel_rfl) (by kernel_rfl) (fun _ _ _ h=>h) (Or.inr ⟨rfl,rfl⟩) hH2 ?_
  simp only [Act.put,zq1,zq2,zq3]
  refine wpAnyH_take (i:=7) (oi:=⟨some 12,_,_,_,_,_⟩) (v:=undef) rfl (by kernel_rfl) (by kernel_rfl) (by kernel_rfl) (fun _ _ _ h=>h) (Or.inr ⟨rfl,rfl⟩) hH2 ?_
  simp only [Act.put,zq1,zq2,zq3]
  refine wpAnyH_take (i:=8) (oi:=⟨some 13,_,_,_,_,_⟩) (v:=undef) rfl (by kernel_rfl) (by kernel_rfl) (by kernel_rfl) (fun _ _ _ h=>h) (Or.inr ⟨rfl,rfl⟩) hH2 ?_
  simp only [Act.put,zq1,zq2,zq3]
  refine wpAnyH_take (i:=9) (oi:=⟨some 14,_,_,_,_,_⟩) (v:=undef) rfl (by kernel_rfl) (by kernel_rfl) (by kernel_rfl) (fun _ _ _ h=>h) (Or.inr ⟨rfl,rfl⟩) hH2 ?_
  simp only [Act.put,zq1,zq2,zq3]
  refine wpAnyH_take (i:=10) (oi:=⟨some 15,_,_,_,_,_⟩) (v:=.bool false) rfl (by kernel_rfl) (by kernel_rfl) (by kernel_rfl) (fun _ _ _ h=>h) (Or.inl ⟨rfl,fun w' hS=>?c10⟩) hH2 ?_
  case c10=>go_simp
  simp only [Act.put,zq1,zq2,zq3]
  refine wpAnyH_take (i:=11) (oi:=⟨some 4,_,_,_,_,_⟩) (v:=.bool false) rfl (by kernel_rfl) (by kernel_rfl) (by kernel_rfl) (fun _ _ _ h=>h) (Or.inl ⟨rfl,fun w' hS=>?c11⟩) hH2 ?_
  case c11=>go_simp
  simp only [Act.put,zq1,zq2,zq3]
  refine wpAnyH_done (by kernel_rfl) ?_ _
  go_wp2
  go_ret
  exact ⟨ret_bool HR.out.symm,hH2.2.2.out.2.2.1⟩
 | true =>
  rw [hv] at HV
  have h01:=(AdrM.validS_mk.1 hv).1
  have HR:=Lib.hid (has_is a x n h01 hv)
  have HH:=Lib.hid (fun W=>highest_any x n hx h01.1 h01.2 W)
  have hc0:=HN.1
  have hc1:=HN.2.1
  have HNN:=Lib.hid HN
  clear hv HN h01
  go_enter Tryz.func278,Tryz.ntmps278
  go_wp2
  go_region_held3 (fun w'=>w'.cell? ⟨w.heap.size,0,none⟩=some (.int .u32 a)/\w'.cell? ⟨w.heap.size,1,none⟩=some (.int .i64 n)/\Hid (NetAt w a n w')) (first | exact NetAt.god (by assumption) | exact NetAt.goh (by assumption) (by assumption) | go_keep)
   (first
    | (go_at_call 217;refine (HV.out _).mono ?_;rintro e w2 ⟨rfl,hbp⟩)
    | (go_at_call 267;refine (HH.out _).mono ?_;rintro e w2 ⟨rfl,rfl⟩))
  go_wp2
  go_ret
  have hh:w2.cell? ⟨w.heap.size,0,none⟩=some (.int .u32 (a:Int))/\w2.cell? ⟨w.heap.size,1,none⟩=some (.int .i64 n)/\Hid (NetAt w a n w2):=by assumption
  exact ⟨ret_bool HR.out,hh.2.2.out.2.2.1⟩
end Ad
end Go.Proofs.YtcockldefmmhbaaGreatDoor
set_option linter.unusedVariables false
set_option maxRecDepth 100000
set_option linter.unusedSimpArgs false
namespace Go.Proofs.YtcockldefmmhbaaGreatDoor
open Go.ChangeShapes Go.WideShapes Go.ChangeAt Go.RowKit Go.Mtl Go.Shelf Go.Sort Go.Lib
namespace Ad
open AdrM (byteS byteS_some byteS_le parseS printS validS showS hasS netS netP left right anyL)
def netVal (o:Option (Nat × Nat)):Value:=match o with
 | some (a,n)=>.tuple #[.agg #[.int .u32 (a:Int),.int .i64 (n:Int)],.int .i64 0]
 | none=>.tuple #[.agg #[.int .u32 0,.int .i64 0],.int .i64 3]
abbrev slash:ByteArray:=⟨#[47]⟩
theorem cut_any (s:ByteArray) (hs:s.size<=1000000) (w:World) (he:Env w) :
  Calls Tryz.prog 213 #[.string s,.string slash] w fun e w'=>∃ b:Bool,e = .returned (.tuple #[.string ⟨(left s.data.toList).toArray⟩,.string ⟨(right s.data.toList).toArray⟩,.bool b])/\∃ k,w'=w.drewN k:=by
 obtain ⟨m,hm⟩:=he.max
 have h:=Tryz.strings_Cut s slash m w (by omega) hm
 have e:slash.data.toList=[47]:=rfl
 rw [e,(AdrM.cut_left _).1,(AdrM.cut_left _).2] at h
 exact h.mono fun _ _ ⟨he,hw⟩=>⟨_,he,hw⟩
theorem net_ok (s:ByteArray) (hs:s.data.toList=anyL) (w:World) :
  Calls Tryz.prog 161 #[.string s] w fun e w'=>e = .returned (netVal (some (0,0)))/\Below w.heap.size w w':=by
 have ht:(s.toList == [97,110,121])=true:=by rw [ByteArray.toList_eq,hs];rfl
 clear hs
 go_enter Tryz.func161,Tryz.ntmps161
 go_wp2_with fail
 exact bodyPost_ret (v:=netVal (some (0,0))) (by simp [results,Tryz.results161,go_sem,netVal]) rfl ⟨rfl,(Below.refl _ _).alloc (Nat.le_refl _) _⟩
structure Zero (w w1:World):Prop where
 c0:w1.cell? ⟨w.heap.size,0,none⟩=some (.int .u32 0)
 c1:w1.cell? ⟨w.heap.size,1,none⟩=some (.int .i64 0)
 f0:w1.frozen? ⟨w.heap.size,0,none⟩=false
 f1:w1.frozen? ⟨w.heap.size,1,none⟩=false
 bel:Below w.heap.size w w1
 lt:w.heap.size < w1.heap.size
theorem zero_box (w:World):Zero w (boxed w 0 0) :=
 ⟨(netAt_box w 0 0).1,(netAt_box w 0 0).2.1,World.frozen?_alloc_new _ _ _ _,World.frozen?_alloc_new _ _ _ _,(netAt_box w 0 0).2.2.1,(netAt_box w 0 0).2.2.2⟩
theorem Zero.next {w w1 w2:World} (h:Zero w w1) (hb:Below w1.heap.size w1 w2):Zero w w2 :=
 ⟨(hb.cell h.lt).trans h.c0,(hb.cell h.lt).trans h.c1,(hb.frozen h.lt).trans h.f0,(hb.frozen h.lt).trans h.f1,h.bel.trans (hb.mono (by have:=h.lt;omega)),by have:=h.lt;have:=hb.size;omega⟩
theorem Zero.alloc {w w1:World} (h:Zero w w1) (o:Obj):Zero w (w1.alloc o):=h.next ((Below.refl _ _).alloc (Nat.le_refl _) o)
theorem Zero.done {w w1:World} (h:Zero w w1) (u v:Value):Below w.heap.size w ((w1.setCell ⟨w.heap.size,0,none⟩ u).setCell ⟨w.heap.size,1,none⟩ v) :=
 (h.bel.setCell (p:=⟨w.heap.size,0,none⟩) (Nat.le_refl _) u).setCell (p:=⟨w.heap.size,1,none⟩) (Nat.le_refl _) v
theorem Zero.read {w w1:World} (h:Zero w w1) (u v:Value) :
  ((w1.setCell ⟨w.heap.size,0,none⟩ u).setCell ⟨w.heap.size,1,none⟩ v).cell? ⟨w.heap.size,0,none⟩=some u ∧
  ((w1.setCell ⟨w.heap.size,0,none⟩ u).setCell ⟨w.heap.size,1,none⟩ v).cell? ⟨w.heap.size,1,none⟩=some v:=by
 refine ⟨?_,?_⟩
 ·rw [World.cell?_setCell_other _ _ _ _ (by simp)]
  exact World.cell?_setCell_same _ _ _ h.c0
 ·exact World.cell?_setCell_same _ _ _ ((World.cell?_setCell_other w1 ⟨w.heap.size,0,none⟩ ⟨w.heap.size,1,none⟩ u (by simp)).trans h.c1)
set_option maxHeartbeats 4000000 in
theorem net_bad (s:ByteArray) (hs:s.size<=1000000) (hne:s.data.toList≠anyL) (w:World) (he:Env w) (hn:netP (left s.data.toList) (right s.data.toList)=none) :
  Calls Tryz.prog 161 #[.string s] w fun e w'=>e = .returned (netVal none)/\Below w.heap.size w w':=by
 have ht:(s.toList == [97,110,121])=false:=by rw [ByteArray.toList_eq];simpa [anyL] using hne
 have hl:(left s.data.toList).length<=1000000/\(right s.data.toList).length<=1000000:=by
  have h1:=size_len s
  rcases (AdrM.split_at s.data.toList).2 with ⟨h2,h3,_⟩ | h2
  ·rw [h3,← h2];simp;omega
  ·have:=congrArg List.length h2;simp at this;omega
 have HC:=Lib.hid (fun W (h:Env W)=>cut_any s hs W h)
 clear hne
 generalize left s.data.toList=p at hl hn HC
 generalize right s.data.toList=r at hl hn HC
 have HP:=Lib.hid (fun W (h:Env W)=>parse_any ⟨p.toArray⟩ (by simp [ByteArray.size];omega) W h)
 have HR:=Lib.hid (fun W (h:Env W)=>number_any ⟨r.toArray⟩ (by simp [ByteArray.size];omega) W h)
 simp only [List.toList_toArray] at HP HR
 have HE:=Lib.hid he
 have HN:=Lib.hid (zero_box w)
 clear hl he
 cases hp:parseS p with
 | none =>
  rw [parseRes_none hp] at HP
  clear hp hn
  cases hb:byteS r with
  | none =>
   rw [numRes_none hb] at HR
   clear hb
   go_enter Tryz.func161,Tryz.ntmps161
   go_wp2_with fail
   go_at_call 213
   refine (HC.out _ (HE.out.alloc _)).mono ?_
   rintro e w1 ⟨b,rfl,k,rfl⟩
   go_wp2_with fail
   go_at_call 215
   refine (HP.out _ ((HE.out.alloc _).drewN k)).mono ?_
   rintro e w2 ⟨rfl,hb2⟩
   have HZ2:=Lib.hid ((HN.out.next (below_drewN _ k)).next hb2)
   clear hb2
   go_wp2_with fail
   go_at_call 216
   refine (HR.out _ (HE.out.below HZ2.out.bel)).mono ?_
   rintro e w3 ⟨rfl,hb3⟩
   have HZ3:=Lib.hid (HZ2.out.next hb3)
   clear hb3
   have HZ4:=Lib.hid (HZ3.out.alloc (.cells #[.int .u32 0,.int .i64 0] 75))
   obtain ⟨hc0,hc1,hf0,hf1,-,-⟩:=HZ4.out
   go_wp2_with fail
   obtain ⟨hr0,hr1⟩:=HZ4.out.read (.int .u32 0) (.int .i64 0)
   exact bodyPost_ret (v:=netVal none) (by simp [results,Tryz.results161,go_sem,netVal,hr0,hr1]) rfl ⟨rfl,HZ4.out.done _ _⟩
  | some n =>
   rw [numRes_some hb] at HR
   have hn8:=byteS_le hb
   clear hb
   go_enter Tryz.func161,Tryz.ntmps161
   go_wp2_with fail
   go_at_call 213
   refine (HC.out _ (HE.out.alloc _)).mono ?_
   rintro e w1 ⟨b,rfl,k,rfl⟩
   go_wp2_with fail
   go_at_call 215
   refine (HP.out _ ((HE.out.alloc _).drewN k)).mono ?_
   rintro e w2 ⟨rfl,hb2⟩
   have HZ2:=Lib.hid ((HN.out.next (below_drewN _ k)).next hb2)
   clear hb2
   go_wp2_with fail
   go_at_call 216
   refine (HR.out _ (HE.out.below HZ2.out.bel)).mono ?_
   rintro e w3 ⟨rfl,hb3⟩
   have HZ3:=Lib.hid (HZ2.out.next hb3)
   clear hb3
   have HZ4:=Lib.hid (HZ3.out.alloc (.cells #[.int .u32 0,.int .i64 (n:Int)] 75))
   obtain ⟨hc0,hc1,hf0,hf1,-,-⟩:=HZ4.out
   go_wp2_with fail
   obtain ⟨hr0,hr1⟩:=HZ4.out.read (.int .u32 0) (.int .i64 0)
   exact bodyPost_ret (v:=netVal none) (by simp [results,Tryz.results161,go_sem,netVal,hr0,hr1]) rfl ⟨rfl,HZ4.out.done _ _⟩
 | some a =>
  rw [parseRes_some hp] at HP
  have ha:=AdrM.parseS_lt hp
  cases hb:byteS r with
  | none =>
   rw [numRes_none hb] at HR
   clear hb hp hn
   go_enter Tryz.func161,Tryz.ntmps161
   go_wp2_with fail
   go_at_call 213
   refine (HC.out _ (HE.out.alloc _)).mono ?_
   rintro e w1 ⟨b,rfl,k,rfl⟩
   go_wp2_with fail
   go_at_call 215
   refine (HP.out _ ((HE.out.alloc _).drewN k)).mono ?_
   rintro e w2 ⟨rfl,hb2⟩
   have HZ2:=Lib.hid ((HN.out.next (below_drewN _ k)).next hb2)
   clear hb2
   go_wp2_with fail
   go_at_call 216
   refine (HR.out _ (HE.out.below HZ2.out.bel)).mono ?_
   rintro e w3 ⟨rfl,hb3⟩
   have HZ3:=Lib.hid (HZ2.out.next hb3)
   clear hb3
   have HZ4:=Lib.hid (HZ3.out.alloc (.cells #[.int .u32 (a:Int),.int .i64 0] 75))
   obtain ⟨hc0,hc1,hf0,hf1,-,-⟩:=HZ4.out
   go_wp2_with fail
   obtain ⟨hr0,hr1⟩:=HZ4.out.read (.int .u32 0) (.int .i64 0)
   exact bodyPost_ret (v:=netVal none) (by simp [results,Tryz.results161,go_sem,netVal,hr0,hr1]) rfl ⟨rfl,HZ4.out.done _ _⟩
  | some n =>
   rw [numRes_some hb] at HR
   have hn8:=byteS_le hb
   by_cases h0:n=0
   ·subst h0
    clear hb hp hn
    go_enter Tryz.func161,Tryz.ntmps161
    go_wp2_with fail
    go_at_call 213
    refine (HC.out _ (HE.out.alloc _)).mono ?_
    rintro e w1 ⟨b,rfl,k,rfl⟩
    go_wp2_with fail
    go_at_call 215
    refine (HP.out _ ((HE.out.alloc _).drewN k)).mono ?_
    rintro e w2 ⟨rfl,hb2⟩
    have HZ2:=Lib.hid ((HN.out.next (below_drewN _ k)).next hb2)
    clear hb2
    go_wp2_with fail
    go_at_call 216
    refine (HR.out _ (HE.out.below HZ2.out.bel)).mono ?_
    rintro e w3 ⟨rfl,hb3⟩
    have HZ3:=Lib.hid (HZ2.out.next hb3)
    clear hb3
    have HZ4:=Lib.hid (HZ3.out.alloc (.cells #[.int .u32 (a:Int),.int .i64 0] 75))
    obtain ⟨hc0,hc1,hf0,hf1,-,-⟩:=HZ4.out
    go_wp2_with fail
    obtain ⟨hr0,hr1⟩:=HZ4.out.read (.int .u32 0) (.int .i64 0)
    exact bodyPost_ret (v:=netVal none) (by simp [results,Tryz.results161,go_sem,netVal,hr0,hr1]) rfl ⟨rfl,HZ4.out.done _ _⟩
   ·have hv:validS a (n:Int)=false:=by
     cases hv:validS a (n:Int) with
     | false=>rfl
     | true=>unfold netP at hn;rw [hp,hb] at hn;simp [h0,hv] at hn
    have HV:=Lib.hid (fun W=>valid_any a n ha W)
    rw [hv] at HV
    have hd:((n:Int) == 0)=false:=by simp;exact h0
    clear hb hp hn hv h0
    go_enter Tryz.func161,Tryz.ntmps161
    go_wp2_with fail
    go_at_call 213
    refine (HC.out _ (HE.out.alloc _)).mono ?_
    rintro e w1 ⟨b,rfl,k,rfl⟩
    go_wp2_with fail
    go_at_call 215
    refine (HP.out _ ((HE.out.alloc _).drewN k)).mono ?_
    rintro e w2 ⟨rfl,hb2⟩
    have HZ2:=Lib.hid ((HN.out.next (below_drewN _ k)).next hb2)
    clear hb2
    go_wp2_with fail
    go_at_call 216
    refine (HR.out _ (HE.out.below HZ2.out.bel)).mono ?_
    rintro e w3 ⟨rfl,hb3⟩
    have HZ3:=Lib.hid (HZ2.out.next hb3)
    clear hb3
    have HZ4:=Lib.hid (HZ3.out.alloc (.cells #[.int .u32 (a:Int),.int .i64 (n:Int)] 75))
    go_wp2_with fail
    go_at_call 217
    have HNN:=Lib.hid (netAt_box w3 (a:Int) (n:Int))
    refine (HV.out _).mono ?_
    rintro e w4 ⟨rfl,hb4⟩
    obtain ⟨hd0,hd1,-,-⟩:=HNN.out.next hb4
    have HZ5:=Lib.hid (HZ4.out.next hb4)
    obtain ⟨hc0,hc1,hf0,hf1,-,-⟩:=HZ5.out
    clear hb4
    go_wp2_with fail
    obtain ⟨hr0,hr1⟩:=HZ5.out.read (.int .u32 0) (.int .i64 0)
    exact bodyPost_ret (v:=netVal none) (by simp [results,Tryz.results161,go_sem,netVal,hr0,hr1]) rfl ⟨rfl,HZ5.out.done _ _⟩
set_option maxHeartbeats 4000000 in
theorem net_good (s:ByteArray) (hs:s.size<=1000000) (hne:s.data.toList≠anyL) (w:World) (he:Env w) (a n:Nat) (hn:netP (left s.data.toList) (right s.data.toList)=some (a,n)) :
  Calls Tryz.prog 161 #[.string s] w fun e w'=>e = .returned (netVal (some (a,n)))/\Below w.heap.size w w':=by
 have ht:(s.toList == [97,110,121])=false:=by rw [ByteArray.toList_eq];simpa [anyL] using hne
 have hl:(left s.data.toList).length<=1000000/\(right s.data.toList).length<=1000000:=by
  have h1:=size_len s
  rcases (AdrM.split_at s.data.toList).2 with ⟨h2,h3,_⟩ | h2
  ·rw [h3,← h2];simp;omega
  ·have:=congrArg List.length h2;simp at this;omega
 have HC:=Lib.hid (fun W (h:Env W)=>cut_any s hs W h)
 clear hne
 generalize left s.data.toList=p at hl hn HC
 generalize right s.data.toList=r at hl hn HC
 have HP:=Lib.hid (fun W (h:Env W)=>parse_any ⟨p.toArray⟩ (by simp [ByteArray.size];omega) W h)
 have HR:=Lib.hid (fun W (h:Env W)=>number_any ⟨r.toArray⟩ (by simp [ByteArray.size];omega) W h)
 simp only [List.toList_toArray] at HP HR
 have HE:=Lib.hid he
 have HN:=Lib.hid (zero_box w)
 clear hl he
 obtain ⟨hp,hb,h0,hv⟩:=AdrM.netP_some hn
 rw [parseRes_some hp] at HP
 have ha:=AdrM.parseS_lt hp
 rw [numRes_some hb] at HR
 have hn8:=byteS_le hb
 have HV:=Lib.hid (fun W=>valid_any a n ha W)
 rw [hv] at HV
 have hd:((n:Int) == 0)=false:=by simp;exact h0
 clear hb hp hn hv h0
 go_enter Tryz.func161,Tryz.ntmps161
 go_wp2_with fail
 go_at_call 213
 refine (HC.out _ (HE.out.alloc _)).mono ?_
 rintro e w1 ⟨b,rfl,k,rfl⟩
 go_wp2_with fail
 go_at_call 215
 refine (HP.out _ ((HE.out.alloc _).drewN k)).mono ?_
 rintro e w2 ⟨rfl,hb2⟩
 have HZ2:=Lib.hid ((HN.out.next (below_drewN _ k)).next hb2)
 clear hb2
 go_wp2_with fail
 go_at_call 216
 refine (HR.out _ (HE.out.below HZ2.out.bel)).mono ?_
 rintro e w3 ⟨rfl,hb3⟩
 have HZ3:=Lib.hid (HZ2.out.next hb3)
 clear hb3
 have HZ4:=Lib.hid (HZ3.out.alloc (.cells #[.int .u32 (a:Int),.int .i64 (n:Int)] 75))
 go_wp2_with fail
 go_at_call 217
 have HNN:=Lib.hid (netAt_box w3 (a:Int) (n:Int))
 refine (HV.out _).mono ?_
 rintro e w4 ⟨rfl,hb4⟩
 obtain ⟨hd0,hd1,-,-⟩:=HNN.out.next hb4
 have HZ5:=Lib.hid (HZ4.out.next hb4)
 obtain ⟨hc0,hc1,hf0,hf1,-,-⟩:=HZ5.out
 clear hb4
 go_wp2_with fail
 obtain ⟨hr0,hr1⟩:=HZ5.out.read (.int .u32 (a:Int)) (.int .i64 (n:Int))
 exact bodyPost_ret (v:=netVal (some (a,n))) (by simp [results,Tryz.results161,go_sem,netVal,hr0,hr1]) rfl ⟨rfl,HZ5.out.done _ _⟩
theorem net_any (s:ByteArray) (hs:s.size<=1000000) (w:World) (he:Env w) :
  Calls Tryz.prog 161 #[.string s] w fun e w'=>e = .returned (netVal (netS s.data.toList))/\Below w.heap.size w w':=by
 unfold netS
 by_cases h:s.data.toList=anyL
 ·rw [if_pos h];exact net_ok s h w
 ·rw [if_neg h]
  cases hn:netP (left s.data.toList) (right s.data.toList) with
  | none=>exact net_bad s hs h w he hn
  | some x=>exact net_good s hs h w he x.1 x.2 hn
end Ad
end Go.Proofs.YtcockldefmmhbaaGreatDoor
