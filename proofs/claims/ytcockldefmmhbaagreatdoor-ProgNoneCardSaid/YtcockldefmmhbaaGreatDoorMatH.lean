import Derived.Test.YtcockldefmmhbaaGreatDoorSq
import Derived.Test.YtcockldefmmhbaaGreatDoorRows
import Derived.Test.YtcockldefmmhbaaGreatDoorJ1
import Derived.Test.YtcockldefmmhbaaGreatDoorJ12
import Derived.Test.YtcockldefmmhbaaGreatDoorComO
import Derived.BigQuiet
import Derived.IntWalk
import Derived.Laws.BitsAllLaws
import Derived.OpenShut
import Derived.Deep.RegionHeld3
import Derived.Deep.RegionHeldLaw
import Derived.Deep.RegionWith
set_option linter.unusedVariables false
set_option linter.unusedSimpArgs false
namespace Go.Proofs.YtcockldefmmhbaaGreatDoor
open Go.ChangeShapes Go.WideShapes Go.ChangeAt Go.RowKit Go.Mtl Go.Lib
namespace Ma
open AdrM (validS hasS)
theorem below_drewN (w:World) (n:Nat):Below w.heap.size w (w.drewN n):=⟨rfl,rfl,rfl,Nat.le_refl _,fun _ _=>rfl⟩
theorem row_of (w:World) (o:Obj):(w.alloc o).heap[w.heap.size]? = some o:=heap_alloc_new w o
theorem quiet_is {P:Program} {f:FuncId} {args:Array Value} {w:World} {v:Value} (h:Calls P f args w fun e w'=>e = .returned v/\w=w'):Calls P f args w fun e w'=>e = .returned v/\w'=w :=
 h.mono fun _ _ ⟨he,hw⟩=>⟨he,hw.symm⟩
theorem mask_fin:∀ k:Fin 33,4294967295 * 2 ^ k.val % 4294967296=4294967296 - 2 ^ k.val:=by decide +kernel
theorem and_mask (a k:Nat) (ha:a < 4294967296) (hk:k<=32):a &&& (4294967296 - 2 ^ k)=a - a % 2 ^ k:=by
 have e1:4294967296 - 2 ^ k=2 ^ k * (2 ^ (32 - k) - 1):=by
  rw [Nat.mul_sub,← Nat.pow_add,show k+(32 - k)=32 by omega,Nat.mul_one]
 have e2:a - a % 2 ^ k=2 ^ k * (a / 2 ^ k):=by have:=Nat.div_add_mod a (2 ^ k);omega
 rw [e1,e2]
 apply Nat.eq_of_testBit_eq
 intro i
 rw [Nat.testBit_and,Nat.testBit_two_pow_mul,Nat.testBit_two_pow_sub_one,Nat.testBit_two_pow_mul,Nat.testBit_div_two_pow]
 by_cases hi:k<=i
 ·rw [show i - k+k=i by omega]
  by_cases h32:i < 32
  ·simp [hi,show i - k < 32 - k by omega]
  ·have:a.testBit i=false:=Nat.testBit_lt_two_pow (Nat.lt_of_lt_of_le ha (Nat.pow_le_pow_right (show 0 < 2 by omega) (show 32<=i by omega)))
   simp [this]
 ·simp [hi]
theorem ret_int {k:IntKind} {a b:Int} (h:a=b):Ending.returned (.int k a) = .returned (.int k b):=by rw [h]
theorem ret_bool {a b:Bool} (h:a=b):Ending.returned (.bool a) = .returned (.bool b):=by rw [h]
theorem valid_is (a:Nat) (n:Int) (h0:0<=n) (h1:n<=32):((a:Int) == ((a - a % 2 ^ (32 - n.toNat):Nat):Int))=validS a n:=by
 unfold validS
 rw [decide_eq_true ⟨h0,h1⟩,Bool.true_and,Bool.eq_iff_iff,beq_iff_eq,beq_iff_eq]
 have:=Nat.mod_le a (2 ^ (32 - n.toNat))
 omega
theorem valid_no (a:Nat) (n:Int) (h : ¬ (0<=n/\n<=32)):validS a n=false:=by
 unfold validS
 rw [decide_eq_false h,Bool.false_and]
abbrev boxed (w:World) (a n:Int):World:=w.alloc (.cells #[.int .u32 a,.int .i64 n] 75)
theorem boxed_below (w:World) (a n:Int) (k:Nat):Below w.heap.size w ((boxed w a n).drewN k):=(((Below.refl _ _).alloc (Nat.le_refl _) _).trans ((below_drewN _ k).mono (by simp)))
theorem highest_is (a:Nat) (n:Int) (ha:a < 4294967296) (h0:0<=n) (h1:n<=32) :
  bits .and .u32 (a:Int) (4294967295 * 2 ^ (32 - n).toNat % 4294967296)=((a - a % 2 ^ (32 - n.toNat):Nat):Int):=by
 have e:(32 - n).toNat=32 - n.toNat:=by omega
 have hm:=mask_fin ⟨32 - n.toNat,by omega⟩
 have hp:2 ^ (32 - n.toNat)<=2 ^ 32:=Nat.pow_le_pow_right (by omega) (by omega)
 simp only [] at hm
 have hz:(4294967295 * 2 ^ (32 - n).toNat % 4294967296:Int)=((4294967296 - 2 ^ (32 - n.toNat):Nat):Int):=by
  rw [e,← hm];simp
 rw [hz,u32_and_nat _ _ ha (by have:=Nat.pow_pos (n:=32 - n.toNat) (show 0 < 2 by omega);omega),and_mask a _ ha (by omega)]
theorem highest_any (a:Nat) (n:Int) (ha:a < 4294967296) (h0:0<=n) (h1:n<=32) (w:World) :
  Calls Tryz.prog 267 #[.int .u32 (a:Int),.int .i64 n] w fun e w'=>e = .returned (.int .u32 ((a - a % 2 ^ (32 - n.toNat):Nat):Int))/\w=w':=by
 go_enter Tryz.func267,Tryz.ntmps267
 go_wp2
 go_ret
 exact ⟨ret_int (highest_is a n ha h0 h1),rfl⟩
theorem valid_any (a:Nat) (n:Int) (ha:a < 4294967296) (w:World) :
  Calls Tryz.prog 217 #[.agg #[.int .u32 (a:Int),.int .i64 n]] w fun e w'=>e = .returned (.bool (validS a n))/\Below w.heap.size w w':=by
 by_cases h0:0<=n
 ·by_cases h1:n<=32
  ·have HV:=Lib.hid (valid_is a n h0 h1)
   go_enter Tryz.func217,Tryz.ntmps217
   go_wp2
   go_quiet ((go_at_call 267;exact Calls.quiet_of_same (quiet_is (highest_any a n ha h0 h1 _))))
   go_wp2
   go_ret
   exact ⟨ret_bool HV.out,boxed_below _ _ _ _⟩
  ·have HV:=Lib.hid (valid_no a n (by omega))
   have hd:decide (n<=32)=false:=by simpa using h1
   clear h1
   go_enter Tryz.func217,Tryz.ntmps217
   go_wp2
   go_quiet (fail)
   go_wp2
   go_ret
   exact ⟨ret_bool HV.out.symm,boxed_below _ _ _ _⟩
 ·have HV:=Lib.hid (valid_no a n (by omega))
  have hd:decide (0<=n)=false:=by simpa using h0
  clear h0
  go_enter Tryz.func217,Tryz.ntmps217
  go_wp2
  go_quiet (fail)
  go_wp2
  go_ret
  exact ⟨ret_bool HV.out.symm,boxed_below _ _ _ _⟩
def NetAt (w:World) (a n:Int) (w1:World):Prop :=
 w1.cell? ⟨w.heap.size,0,none⟩=some (.int .u32 a)/\w1.cell? ⟨w.heap.size,1,none⟩=some (.int .i64 n)/\Below w.heap.size w w1/\w.heap.size < w1.heap.size
theorem netAt_box (w:World) (a n:Int):NetAt w a n (boxed w a n) :=
 ⟨by rw [cell_of_row _ _ _ _ _ _ (row_of _ _)];rfl,by rw [cell_of_row _ _ _ _ _ _ (row_of _ _)];rfl,(Below.refl _ _).alloc (Nat.le_refl _) _,by simp⟩
theorem NetAt.next {w w1 w2:World} {a n:Int} (h:NetAt w a n w1) (hb:Below w1.heap.size w1 w2):NetAt w a n w2 :=
 ⟨(hb.cell h.2.2.2).trans h.1,(hb.cell h.2.2.2).trans h.2.1,h.2.2.1.trans (hb.mono (by have:=h.2.2.2;omega)),by have:=h.2.2.2;have:=hb.size;omega⟩
theorem NetAt.go {w w1 w2:World} {a n:Int} (h:Hid (NetAt w a n w1)) (hb:Below w1.heap.size w1 w2) :
  w2.cell? ⟨w.heap.size,0,none⟩=some (.int .u32 a)/\w2.cell? ⟨w.heap.size,1,none⟩=some (.int .i64 n)/\Hid (NetAt w a n w2) :=
 ⟨(h.out.next hb).1,(h.out.next hb).2.1,h.out.next hb⟩
theorem NetAt.goh {w w1 w2:World} {a n:Int} (h:w1.cell? ⟨w.heap.size,0,none⟩=some (.int .u32 a)/\w1.cell? ⟨w.heap.size,1,none⟩=some (.int .i64 n)/\Hid (NetAt w a n w1)) (hb:Below w1.heap.size w1 w2) :
  w2.cell? ⟨w.heap.size,0,none⟩=some (.int .u32 a)/\w2.cell? ⟨w.heap.size,1,none⟩=some (.int .i64 n)/\Hid (NetAt w a n w2):=NetAt.go h.2.2 hb
theorem NetAt.god {w w1:World} {a n:Int} (h:Hid (NetAt w a n w1)) :
  w1.drew.cell? ⟨w.heap.size,0,none⟩=some (.int .u32 a)/\w1.drew.cell? ⟨w.heap.size,1,none⟩=some (.int .i64 n)/\Hid (NetAt w a n w1.drew) :=
 ⟨h.out.1,h.out.2.1,h.out.1,h.out.2.1,h.out.2.2.1.drew,h.out.2.2.2⟩
theorem has_is (a x:Nat) (n:Int) (h:0<=n/\n<=32) (hv:validS a n=true):(((x - x % 2 ^ (32 - n.toNat):Nat):Int) == (a:Int))=hasS a n x:=by
 unfold hasS
 rw [hv,Bool.true_and,Bool.eq_iff_iff,beq_iff_eq,beq_iff_eq]
 have h1:=(AdrM.validS_mk.1 hv).2
 have h2:=Nat.div_add_mod x (2 ^ (32 - n.toNat))
 have h3:=Nat.div_add_mod a (2 ^ (32 - n.toNat))
 have h4:0 < 2 ^ (32 - n.toNat):=Nat.pow_pos (by omega)
 constructor
 ·intro e
  have:2 ^ (32 - n.toNat) * (x / 2 ^ (32 - n.toNat))=2 ^ (32 - n.toNat) * (a / 2 ^ (32 - n.toNat)):=by omega
  exact Nat.eq_of_mul_eq_mul_left h4 this
 ·intro e
  rw [e] at h2
  omega
set_option maxHeartbeats 2000000 in
theorem has_any (a x:Nat) (n:Int) (ha:a < 4294967296) (hx:x < 4294967296) (w:World) :
  Calls Tryz.prog 278 #[.agg #[.int .u32 (a:Int),.int .i64 n],.int .u32 (x:Int)] w fun e w'=>e = .returned (.bool (hasS a n x))/\Below w.heap.size w w':=by
 have HV:=Lib.hid (fun W=>valid_any a n ha W)
 have HN:=netAt_box w a n
 cases hv:validS a n with
 | false =>
  rw [hv] at HV
  have HR:Hid (hasS a n x=false):=by show _=_;unfold hasS;rw [hv];rfl
  have hc0:=HN.1
  have hc1:=HN.2.1
  have HNN:=Lib.hid HN
  clear hv HN
  go_enter Tryz.func278,Tryz.ntmps278
  go_wp2
  refine wp_region_held_drew (S:=fun w'=>w'.cell? ⟨w.heap.size,0,none⟩=some (.int .u32 a)/\w'.cell? ⟨w.heap.size,1,none⟩=some (.int .i64 n)/\Hid (NetAt w a n w')) (by kernel_rfl) (NetAt.god HNN) (fun hH=>?_)
  refine wpAnyH_take (i:=0) (oi:=⟨some 5,_,_,_,_,_⟩) (v:=.agg #[.int .u32 (a:Int),.int .i64 n]) rfl (by kernel_rfl) (by kernel_rfl) (by kernel_rfl) (fun _ _ _ h=>h) (Or.inl ⟨rfl,fun w' hS=>?c0⟩) hH ?_
  case c0=>(obtain ⟨hS0,hS1,_⟩:=hS;go_simp)
  simp only [Act.put,zq1,zq2,zq3]
  refine wpAnyH_ready (rs:=[1]) (by kernel_rfl) (by simp) (AllReadyH.cons rfl (fun K hK=>?_) AllReadyH.nil)
  go_simp
  go_at_call 217
  refine (HV.out _).mono ?_
  rintro e w2 ⟨rfl,hbp⟩
  refine hK.out _ _ (NetAt.goh hH hbp) (fun hH2=>?_)
  clear hK K hH
  refine wpAnyH_take (i:=2) (oi:=⟨some 7,_,_,_,_,_⟩) (v:=.bool false) rfl (by kernel_rfl) (by kernel_rfl) (by kernel_rfl) (fun _ _ _ h=>h) (Or.inl ⟨rfl,fun w' hS=>?c2⟩) hH2 ?_
  case c2=>go_simp
  simp only [Act.put,zq1,zq2,zq3]
  refine wpAnyH_take (i:=3) (oi:=⟨some 8,_,_,_,_,_⟩) (v:=undef) rfl (by kernel_rfl) (by kernel_rfl) (by kernel_rfl) (fun _ _ _ h=>h) (Or.inr ⟨rfl,rfl⟩) hH2 ?_
  simp only [Act.put,zq1,zq2,zq3]
  refine wpAnyH_take (i:=4) (oi:=⟨some 9,_,_,_,_,_⟩) (v:=undef) rfl (by kernel_rfl) (by kernel_rfl) (by kernel_rfl) (fun _ _ _ h=>h) (Or.inr ⟨rfl,rfl⟩) hH2 ?_
  simp only [Act.put,zq1,zq2,zq3]
  refine wpAnyH_take (i:=5) (oi:=⟨some 10,_,_,_,_,_⟩) (v:=undef) rfl (by kernel_rfl) (by kernel_rfl) (by kernel_rfl) (fun _ _ _ h=>h) (Or.inr ⟨rfl,rfl⟩) hH2 ?_
  simp only [Act.put,zq1,zq2,zq3]
  refine wpAnyH_take (i:=6) (oi:=⟨some 11,_,_,_,_,_⟩) (v:=undef) rfl (by kernel_rfl) (by kernel_rfl) (by kernel_rfl) (fun _ _ _ h=>h) (Or.inr ⟨rfl,rfl⟩) hH2 ?_
  simp only [Act.put,zq1,zq2,zq3]
  refine wpAnyH_take (i:=7) (oi:=⟨some 12,_,_,_,_,_⟩) (v:=undef) rfl (by kernel_rfl) (by kernel_rfl) (by kernel_rfl) (fun _ _ _ h=>h) (Or.inr ⟨rfl,rfl⟩) hH2 ?_
  simp only [Act.put,zq1,zq2,zq3]
  refine wpAnyH_take (i:=8) (oi:=⟨some 13,_,_,_,_,_⟩) (v:=undef) rfl (by kernel_rfl) (by kernel_rfl) (by kernel_rfl) (fun _ _ _ h=>h) (Or.inr ⟨rfl,rfl⟩) hH2 ?_
  simp only [Act.put,zq1,zq2,zq3]
  refine wpAnyH_take (i:=9) (oi:=⟨some 14,_,_,_,_,_⟩) (v:=undef) rfl (by kernel_rfl) (by kernel_rfl) (by kernel_rfl) (fun _ _ _ h=>h) (Or.inr ⟨rfl,rfl⟩) hH2 ?_
  simp only [Act.put,zq1,zq2,zq3]
  refine wpAnyH_take (i:=10) (oi:=⟨some 15,_,_,_,_,_⟩) (v:=.bool false) rfl (by kernel_rfl) (by kernel_rfl) (by kernel_rfl) (fun _ _ _ h=>h) (Or.inl ⟨rfl,fun w' hS=>?c10⟩) hH2 ?_
  case c10=>go_simp
  simp only [Act.put,zq1,zq2,zq3]
  refine wpAnyH_take (i:=11) (oi:=⟨some 4,_,_,_,_,_⟩) (v:=.bool false) rfl (by kernel_rfl) (by kernel_rfl) (by kernel_rfl) (fun _ _ _ h=>h) (Or.inl ⟨rfl,fun w' hS=>?c11⟩) hH2 ?_
  case c11=>go_simp
  simp only [Act.put,zq1,zq2,zq3]
  refine wpAnyH_done (by kernel_rfl) ?_ _
  go_wp2
  go_ret
  exact ⟨ret_bool HR.out.symm,hH2.2.2.out.2.2.1⟩
 | true =>
  rw [hv] at HV
  have h01:=(AdrM.validS_mk.1 hv).1
  have HR:=Lib.hid (has_is a x n h01 hv)
  have HH:=Lib.hid (fun W=>highest_any x n hx h01.1 h01.2 W)
  have hc0:=HN.1
  have hc1:=HN.2.1
  have HNN:=Lib.hid HN
  clear hv HN h01
  go_enter Tryz.func278,Tryz.ntmps278
  go_wp2
  go_region_held3 (fun w'=>w'.cell? ⟨w.heap.size,0,none⟩=some (.int .u32 a)/\w'.cell? ⟨w.heap.size,1,none⟩=some (.int .i64 n)/\Hid (NetAt w a n w')) (first | exact NetAt.god (by assumption) | exact NetAt.goh (by assumption) (by assumption) | go_keep)
   (first
    | (go_at_call 217;refine (HV.out _).mono ?_;rintro e w2 ⟨rfl,hbp⟩)
    | (go_at_call 267;refine (HH.out _).mono ?_;rintro e w2 ⟨rfl,rfl⟩))
  go_wp2
  go_ret
  have hh:w2.cell? ⟨w.heap.size,0,none⟩=some (.int .u32 (a:Int))/\w2.cell? ⟨w.heap.size,1,none⟩=some (.int .i64 n)/\Hid (NetAt w a n w2):=by assumption
  exact ⟨ret_bool HR.out,hh.2.2.out.2.2.1⟩
theorem NetAt.fin {w w1:World} {a n:Int} (h:w1.cell? ⟨w.heap.size,0,none⟩=some (.int .u32 a)/\w1.cell? ⟨w.heap.size,1,none⟩=some (.int .i64 n)/\Hid (NetAt w a n w1)):Below w.heap.size w w1:=h.2.2.out.2.2.1
end Ma
end Go.Proofs.YtcockldefmmhbaaGreatDoor
