/- Several texts of this proof in one file, each in its own namespace. -/
import Derived.Test.YtcockldefmmhbaaGreatDoorRows
import Derived.Test.YtcockldefmmhbaaGreatDoorShelf
import Derived.Test.YtcockldefmmhbaaGreatDoorJ1
import Derived.Test.YtcockldefmmhbaaGreatDoorComO
import Derived.Test.YtcockldefmmhbaaGreatDoorJ12
import Derived.Test.YtcockldefmmhbaaGreatDoorRulA
import Derived.WalkKit
import Derived.ProofKit
import Derived.OpenShut
import Derived.BigQuiet
import Derived.Lib.Hide
import Derived.Lib.ItoaMem
import Derived.Deep.RegionWith
import Derived.Deep.RegionHeld3
import Derived.Deep.RegionHeldLaw
import Derived.IntWalk
set_option linter.unusedVariables false
set_option linter.unusedSimpArgs false
set_option maxRecDepth 100000
namespace Go.Proofs.YtcockldefmmhbaaGreatDoor
open Go.ChangeShapes Go.WideShapes Go.ChangeAt Go.RowKit Go.Mtl Go.Shelf Go.Sort Go.Lib
namespace Ah
open AdrM (byteS byteS_some byteS_le parseS printS validS showS hasS netS anyL b3 b2 b1 b0)
theorem gTab:Tryz.prog.globalNamed "internal/strconv.uint64pow10" = some 10:=by kernel_rfl
structure Env (w:World):Prop where
 tab:TabIs Tryz.prog w "internal/strconv.uint64pow10" .u64 pow10Tab
theorem var_lt {P:Program} {w:World} {n:String} {g:Nat} {cs:Array Value} (hg:P.globalNamed n=some g) (h:w.var? P n=some cs):g < w.heap.size:=by
 unfold World.var? at h
 simp only [hg,Option.bind_some] at h
 rcases Nat.lt_or_ge g w.heap.size with h' | h'
 ·exact h'
 ·rw [Array.getElem?_eq_none h'] at h;simp at h
theorem var_below {P:Program} {w w':World} {n:String} {g:Nat} {cs:Array Value} (hg:P.globalNamed n=some g) (h:w.var? P n=some cs) (hb:Below w.heap.size w w'):w'.var? P n=some cs:=by
 have hlt:=var_lt hg h
 unfold World.var? at *
 simp only [hg,Option.bind_some] at h ⊢
 rw [hb.block g hlt]
 exact h
theorem Env.below {w w':World} (h:Env w) (hb:Below w.heap.size w w'):Env w':=⟨var_below gTab h.tab hb⟩
theorem Env.alloc {w:World} (h:Env w) (o:Obj):Env (w.alloc o):=h.below ((Below.refl _ _).alloc (Nat.le_refl _) o)
theorem Env.drewN {w:World} (h:Env w) (n:Nat):Env (w.drewN n):=⟨h.tab⟩
theorem below_drewN (w:World) (n:Nat):Below w.heap.size w (w.drewN n):=⟨rfl,rfl,rfl,Nat.le_refl _,fun _ _=>rfl⟩
theorem below_grow (w:World) (k:Nat) (os:Array Obj):Below w.heap.size w (Sort.grow (w.drewN k) os):=by
 refine ⟨rfl,rfl,rfl,by simp [Sort.grow],fun i hi=>?_⟩
 show ((w.heap ++ os)[i]?)=w.heap[i]?
 rw [Array.getElem?_append_left hi]
theorem list_of (s:ByteArray):(⟨s.data.toList.toArray⟩:ByteArray)=s:=by cases s;simp
theorem ba_eq {s t:ByteArray} (h:s.data.toList=t.data.toList):s=t:=by rw [← list_of s,h,list_of]
theorem row_of (w:World) (o:Obj):(w.alloc o).heap[w.heap.size]? = some o:=heap_alloc_new w o
def upto (a:Nat):Nat->List UInt8
 | 0=>[]
 | 1=>decDigits (b3 a)
 | 2=>decDigits (b3 a) ++ (46 :: decDigits (b2 a))
 | 3=>decDigits (b3 a) ++ (46 :: (decDigits (b2 a) ++ (46 :: decDigits (b1 a))))
 | _=>printS a
theorem upto_len (a k:Nat) (ha:a < 4294967296):(upto a k).length<=15:=by
 have h:=AdrM.print_len a ha
 unfold printS at h
 unfold upto
 simp at h
 split <;> (try simp) <;> try omega
 unfold printS;simp;omega
theorem u8_info:(Tryz.prog.info? 5).map (fun i=>(i.zero,i.size,i.bytes))=some (some (.int .u8 0),1,1):=by kernel_rfl
def Row (w:World) (l:List UInt8) (v:Value) (wr:World):Prop:=wr.ownsRow w.heap.size 5 1 v l.length (bvs l)/\Below w.heap.size w wr
theorem row_dot {w wr w2:World} {l:List UInt8} {v v2:Value} (h:Row w l v wr) (c:UInt8)
  (ho2:w2.ownsRow w.heap.size 5 1 v2 (l.length+1) (bvs l ++ [.int .u8 (c.toNat:Int)])) (hg:(wr.alloc (.cells #[.int .u8 (c.toNat:Int)] 5)).grownBy w2 v.ownBlock):Row w (l ++ [c]) v2 w2:=by
 refine ⟨?_,(h.2.alloc h.2.size _).grown hg (by simp;have:=h.2.size;omega) (fun b hb=>(h.1.lt b hb).1)⟩
 rw [← bvs_snoc,List.length_append]
 exact ho2
theorem appendUint_any {w wr:World} {l:List UInt8} {v:Value} (he:Env w) (h:Row w l v wr) (hl:l.length<=1000) (x:Int) (u:Nat) (hx:x=(u:Int)) (hu:u<=255) :
  Calls Tryz.prog 275 #[v,.int .u64 x,.int .i64 10] wr fun e w'=>∃ v',e = .returned v'/\Row w (l ++ decDigits u) v' w':=by
 subst hx
 have HC:=Lib.hid (Tryz.internal_strconv_AppendUint_10 w.heap.size l.length u (by omega) v (bvs l) wr h.1 h.2.size (by omega) (he.below h.2).tab)
 have HR:=Lib.hid h
 clear h he
 go_enter Tryz.func275,Tryz.ntmps275
 go_wp2_with fail
 go_at_call 296
 refine HC.out.mono ?_
 rintro e w2 ⟨v2,rfl,ho2,hb2,-⟩
 have HR2:Hid (Row w (l ++ decDigits u) v2 w2):=by
  refine ⟨?_,HR.out.2.trans hb2⟩
  rw [List.length_append]
  have:bvs (l ++ decDigits u)=bvs l ++ byteCells (decDigits u):=by simp [bvs,byteCells]
  rw [this]
  exact ho2
 clear ho2 hb2
 go_wp2_with fail
 go_ret
 exact ⟨_,rfl,HR2.out⟩
set_option maxRecDepth 100000 in
set_option maxHeartbeats 2000000 in
theorem print_any (a:Nat) (ha:a < 4294967296) (w:World) (he:Env w) :
  Calls Tryz.prog 243 #[.int .u32 (a:Int)] w fun e w'=>e = .returned (.string ⟨(printS a).toArray⟩)/\Below w.heap.size w w':=by
 obtain ⟨i0,hi0,hz0,hz1,hz2⟩:=info_parts u8_info
 have HE:=Lib.hid he
 clear he
 go_enter Tryz.func243,Tryz.ntmps243
 go_wp2_with fail
 go_loopw [3,6] (fun v i wr=>∃ (k:Nat),k<=4/\i = .int .i64 (k:Int)/\Hid (Row w (upto a k) v wr)) (fun _ i _=>4 - (RowKit.intOf i).toNat)
 case atStart=>exact ⟨0,by omega,rfl,World.ownsRow_nil _ _ _ _,Below.refl _ _⟩
 case round =>
  obtain ⟨k,hk,rfl,hown⟩:=hrel
  have HLE:Hid ((upto a k).length<=15):=upto_len a k ha
  by_cases hlt:k < 4
  ·obtain rfl | rfl | rfl | rfl:k=0\/k=1\/k=2\/k=3:=by omega
   ·go_wp2_with fail
    go_at_call 275
    refine (appendUint_any HE.out hown.out (by have:=HLE.out;omega) _ (b3 a) (by unfold b3;omega) (by unfold b3;omega)).mono ?_
    rintro e w3 ⟨v3,rfl,hr3⟩
    have HR3:=Lib.hid hr3
    clear hr3
    go_wp2_with fail
    go_roundw
    case rel=>exact ⟨1,by omega,rfl,HR3.out⟩
    case measure=>simp [RowKit.intOf]
   ·go_wp2_with (at_builtin;(refine wpList_append_byte _ rfl (.tmp 11) (.tmp 12) _ rfl w.heap.size 5 i0 Tryz.underlying27 hi0 hz0 hz1 hz2 _ _ _ _ rfl hown.out.1 rfl (by have:=HLE.out;omega) hown.out.2.size ?_;intro o2 w2 ho2 hg2;have HO2:=Lib.hid (row_dot hown.out 46 ho2 hg2);clear ho2 hg2))
    go_at_call 275
    refine (appendUint_any HE.out HO2.out (by have:=HLE.out;simp;omega) _ (b2 a) (by unfold b2;omega) (by unfold b2;omega)).mono ?_
    rintro e w3 ⟨v3,rfl,hr3⟩
    have HR3:Hid (Row w (upto a 2) v3 w3):=by show Row _ _ _ _;simpa [upto] using hr3
    clear hr3
    go_wp2_with fail
    go_roundw
    case rel=>exact ⟨2,by omega,rfl,HR3.out⟩
    case measure=>simp [RowKit.intOf]
   ·go_wp2_with (at_builtin;(refine wpList_append_byte _ rfl (.tmp 11) (.tmp 12) _ rfl w.heap.size 5 i0 Tryz.underlying27 hi0 hz0 hz1 hz2 _ _ _ _ rfl hown.out.1 rfl (by have:=HLE.out;omega) hown.out.2.size ?_;intro o2 w2 ho2 hg2;have HO2:=Lib.hid (row_dot hown.out 46 ho2 hg2);clear ho2 hg2))
    go_at_call 275
    refine (appendUint_any HE.out HO2.out (by have:=HLE.out;simp;omega) _ (b1 a) (by unfold b1;omega) (by unfold b1;omega)).mono ?_
    rintro e w3 ⟨v3,rfl,hr3⟩
    have HR3:Hid (Row w (upto a 3) v3 w3):=by show Row _ _ _ _;simpa [upto] using hr3
    clear hr3
    go_wp2_with fail
    go_roundw
    case rel=>exact ⟨3,by omega,rfl,HR3.out⟩
    case measure=>simp [RowKit.intOf]
   ·go_wp2_with (at_builtin;(refine wpList_append_byte _ rfl (.tmp 11) (.tmp 12) _ rfl w.heap.size 5 i0 Tryz.underlying27 hi0 hz0 hz1 hz2 _ _ _ _ rfl hown.out.1 rfl (by have:=HLE.out;omega) hown.out.2.size ?_;intro o2 w2 ho2 hg2;have HO2:=Lib.hid (row_dot hown.out 46 ho2 hg2);clear ho2 hg2))
    go_at_call 275
    refine (appendUint_any HE.out HO2.out (by have:=HLE.out;simp;omega) _ (b0 a) (by unfold b0;omega) (by unfold b0;omega)).mono ?_
    rintro e w3 ⟨v3,rfl,hr3⟩
    have HR3:Hid (Row w (upto a 4) v3 w3):=by show Row _ _ _ _;simpa [upto,printS] using hr3
    clear hr3
    go_wp2_with fail
    go_roundw
    case rel=>exact ⟨4,by omega,rfl,HR3.out⟩
    case measure=>simp [RowKit.intOf]
  ·obtain rfl:k=4:=by omega
   have hne:0 < (upto a 4).length:=by
    simp [upto,printS];omega
   obtain ⟨g,cap,rfl,_,_⟩:=hown.out.1.form hne
   have ht:=run_text (P:=Tryz.prog) 27 9 5 Tryz.underlying27 Tryz.underlying5 Tryz.underlying9 (c:=cap) (bts_of_own hown.out.1 rfl)
   clear hne
   go_wp2_with fail
   go_ret
   exact ⟨rfl,hown.out.2⟩
theorem quiet_is {P:Program} {f:FuncId} {args:Array Value} {w:World} {v:Value} (h:Calls P f args w fun e w'=>e = .returned v/\w=w'):Calls P f args w fun e w'=>e = .returned v/\w'=w :=
 h.mono fun _ _ ⟨he,hw⟩=>⟨he,hw.symm⟩
theorem mask_fin:∀ k:Fin 33,4294967295 * 2 ^ k.val % 4294967296=4294967296 - 2 ^ k.val:=by decide +kernel
theorem and_mask (a k:Nat) (ha:a < 4294967296) (hk:k<=32):a &&& (4294967296 - 2 ^ k)=a - a % 2 ^ k:=by
 have e1:4294967296 - 2 ^ k=2 ^ k * (2 ^ (32 - k) - 1):=by
  rw [Nat.mul_sub,← Nat.pow_add,show k+(32 - k)=32 by omega,Nat.mul_one]
 have e2:a - a % 2 ^ k=2 ^ k * (a / 2 ^ k):=by have:=Nat.div_add_mod a (2 ^ k);omega
 rw [e1,e2]
 apply Nat.eq_of_testBit_eq
 intro i
 rw [Nat.testBit_and,Nat.testBit_two_pow_mul,Nat.testBit_two_pow_sub_one,Nat.testBit_two_pow_mul,Nat.testBit_div_two_pow]
 by_cases hi:k<=i
 ·rw [show i - k+k=i by omega]
  by_cases h32:i < 32
  ·simp [hi,show i - k < 32 - k by omega]
  ·have:a.testBit i=false:=Nat.testBit_lt_two_pow (Nat.lt_of_lt_of_le ha (Nat.pow_le_pow_right (show 0 < 2 by omega) (show 32<=i by omega)))
   simp [this]
 ·simp [hi]
theorem ret_int {k:IntKind} {a b:Int} (h:a=b):Ending.returned (.int k a) = .returned (.int k b):=by rw [h]
theorem ret_bool {a b:Bool} (h:a=b):Ending.returned (.bool a) = .returned (.bool b):=by rw [h]
theorem valid_is (a:Nat) (n:Int) (h0:0<=n) (h1:n<=32):((a:Int) == ((a - a % 2 ^ (32 - n.toNat):Nat):Int))=validS a n:=by
 unfold validS
 rw [decide_eq_true ⟨h0,h1⟩,Bool.true_and,Bool.eq_iff_iff,beq_iff_eq,beq_iff_eq]
 have:=Nat.mod_le a (2 ^ (32 - n.toNat))
 omega
theorem valid_no (a:Nat) (n:Int) (h : ¬ (0<=n/\n<=32)):validS a n=false:=by
 unfold validS
 rw [decide_eq_false h,Bool.false_and]
abbrev boxed (w:World) (a n:Int):World:=w.alloc (.cells #[.int .u32 a,.int .i64 n] 75)
theorem boxed_below (w:World) (a n:Int) (k:Nat):Below w.heap.size w ((boxed w a n).drewN k):=(((Below.refl _ _).alloc (Nat.le_refl _) _).trans ((below_drewN _ k).mono (by simp)))
theorem highest_is (a:Nat) (n:Int) (ha:a < 4294967296) (h0:0<=n) (h1:n<=32) :
  bits .and .u32 (a:Int) (4294967295 * 2 ^ (32 - n).toNat % 4294967296)=((a - a % 2 ^ (32 - n.toNat):Nat):Int):=by
 have e:(32 - n).toNat=32 - n.toNat:=by omega
 have hm:=mask_fin ⟨32 - n.toNat,by omega⟩
 have hp:2 ^ (32 - n.toNat)<=2 ^ 32:=Nat.pow_le_pow_right (by omega) (by omega)
 simp only [] at hm
 have hz:(4294967295 * 2 ^ (32 - n).toNat % 4294967296:Int)=((4294967296 - 2 ^ (32 - n.toNat):Nat):Int):=by
  rw [e,← hm];simp
 rw [hz,u32_and_nat _ _ ha (by have:=Nat.pow_pos (n:=32 - n.toNat) (show 0 < 2 by omega);omega),and_mask a _ ha (by omega)]
theorem highest_any (a:Nat) (n:Int) (ha:a < 4294967296) (h0:0<=n) (h1:n<=32) (w:World) :
  Calls Tryz.prog 267 #[.int .u32 (a:Int),.int .i64 n] w fun e w'=>e = .returned (.int .u32 ((a - a % 2 ^ (32 - n.toNat):Nat):Int))/\w=w':=by
 go_enter Tryz.func267,Tryz.ntmps267
 go_wp2
 go_ret
 exact ⟨ret_int (highest_is a n ha h0 h1),rfl⟩
theorem valid_any (a:Nat) (n:Int) (ha:a < 4294967296) (w:World) :
  Calls Tryz.prog 217 #[.agg #[.int .u32 (a:Int),.int .i64 n]] w fun e w'=>e = .returned (.bool (validS a n))/\Below w.heap.size w w':=by
 by_cases h0:0<=n
 ·by_cases h1:n<=32
  ·have HV:=Lib.hid (valid_is a n h0 h1)
   go_enter Tryz.func217,Tryz.ntmps217
   go_wp2
   go_quiet ((go_at_call 267;exact Calls.quiet_of_same (quiet_is (highest_any a n ha h0 h1 _))))
   go_wp2
   go_ret
   exact ⟨ret_bool HV.out,boxed_below _ _ _ _⟩
  ·have HV:=Lib.hid (valid_no a n (by omega))
   have hd:decide (n<=32)=false:=by simpa using h1
   clear h1
   go_enter Tryz.func217,Tryz.ntmps217
   go_wp2
   go_quiet (fail)
   go_wp2
   go_ret
   exact ⟨ret_bool HV.out.symm,boxed_below _ _ _ _⟩
 ·have HV:=Lib.hid (valid_no a n (by omega))
  have hd:decide (0<=n)=false:=by simpa using h0
  clear h0
  go_enter Tryz.func217,Tryz.ntmps217
  go_wp2
  go_quiet (fail)
  go_wp2
  go_ret
  exact ⟨ret_bool HV.out.symm,boxed_below _ _ _ _⟩
def NetAt (w:World) (a n:Int) (w1:World):Prop :=
 w1.cell? ⟨w.heap.size,0,none⟩=some (.int .u32 a)/\w1.cell? ⟨w.heap.size,1,none⟩=some (.int .i64 n)/\Below w.heap.size w w1/\w.heap.size < w1.heap.size
theorem netAt_box (w:World) (a n:Int):NetAt w a n (boxed w a n) :=
 ⟨by rw [cell_of_row _ _ _ _ _ _ (row_of _ _)];rfl,by rw [cell_of_row _ _ _ _ _ _ (row_of _ _)];rfl,(Below.refl _ _).alloc (Nat.le_refl _) _,by simp⟩
theorem NetAt.next {w w1 w2:World} {a n:Int} (h:NetAt w a n w1) (hb:Below w1.heap.size w1 w2):NetAt w a n w2 :=
 ⟨(hb.cell h.2.2.2).trans h.1,(hb.cell h.2.2.2).trans h.2.1,h.2.2.1.trans (hb.mono (by have:=h.2.2.2;omega)),by have:=h.2.2.2;have:=hb.size;omega⟩
theorem NetAt.go {w w1 w2:World} {a n:Int} (h:Hid (NetAt w a n w1)) (hb:Below w1.heap.size w1 w2) :
  w2.cell? ⟨w.heap.size,0,none⟩=some (.int .u32 a)/\w2.cell? ⟨w.heap.size,1,none⟩=some (.int .i64 n)/\Hid (NetAt w a n w2) :=
 ⟨(h.out.next hb).1,(h.out.next hb).2.1,h.out.next hb⟩
theorem NetAt.goh {w w1 w2:World} {a n:Int} (h:w1.cell? ⟨w.heap.size,0,none⟩=some (.int .u32 a)/\w1.cell? ⟨w.heap.size,1,none⟩=some (.int .i64 n)/\Hid (NetAt w a n w1)) (hb:Below w1.heap.size w1 w2) :
  w2.cell? ⟨w.heap.size,0,none⟩=some (.int .u32 a)/\w2.cell? ⟨w.heap.size,1,none⟩=some (.int .i64 n)/\Hid (NetAt w a n w2):=NetAt.go h.2.2 hb
theorem NetAt.god {w w1:World} {a n:Int} (h:Hid (NetAt w a n w1)) :
  w1.drew.cell? ⟨w.heap.size,0,none⟩=some (.int .u32 a)/\w1.drew.cell? ⟨w.heap.size,1,none⟩=some (.int .i64 n)/\Hid (NetAt w a n w1.drew) :=
 ⟨h.out.1,h.out.2.1,h.out.1,h.out.2.1,h.out.2.2.1.drew,h.out.2.2.2⟩
theorem itoa_any (n:Int) (h0:0<=n) (h1:n<=99) (w:World):Calls Tryz.prog 244 #[.int .i64 n] w fun e w'=>e = .returned (.string ⟨(decDigits n.toNat).toArray⟩)/\w=w':=by
 obtain ⟨i,rfl⟩:=Int.eq_ofNat_of_zero_le h0
 exact (Tryz.strconv_Itoa_small i (by omega) w).mono fun _ _ ⟨he,hw⟩=>⟨he,hw.symm⟩
theorem add_text {P:Program} (x y:List UInt8) (hx:x.length<=1000000) (hy:y.length<=1000000) (W:World) :
  (Op.stringOp .add ⟨x.toArray⟩ ⟨y.toArray⟩).run P W = .ok (.string ⟨(x ++ y).toArray⟩) W:=run_string_add_lists W x y (by omega) (by omega)
def showRes (a:Nat) (n:Int):Value:=match showS a n with
 | some t=>.tuple #[.string ⟨t.toArray⟩,.int .i64 0]
 | none=>.tuple #[.string ⟨#[]⟩,.int .i64 1]
theorem showRes_bad {a:Nat} {n:Int} (h:validS a n=false):showRes a n = .tuple #[.string ⟨#[]⟩,.int .i64 1]:=by
 unfold showRes showS;rw [if_neg (by rw [h];simp)]
theorem showRes_any {a:Nat} (h:validS a 0=true):showRes a 0 = .tuple #[.string ⟨AdrM.anyL.toArray⟩,.int .i64 0]:=by
 unfold showRes showS;rw [if_pos h];rfl
theorem showRes_net {a:Nat} {n:Int} (h:validS a n=true) (h0:n≠0):showRes a n = .tuple #[.string ⟨(printS a ++ (47 :: decDigits n.toNat)).toArray⟩,.int .i64 0]:=by
 unfold showRes showS;rw [if_pos h,if_neg h0]
set_option maxHeartbeats 2000000 in
theorem show_any (a:Nat) (n:Int) (ha:a < 4294967296) (w:World) (he:Env w) :
  Calls Tryz.prog 185 #[.agg #[.int .u32 (a:Int),.int .i64 n]] w fun e w'=>e = .returned (showRes a n)/\Below w.heap.size w w':=by
 have HV:=Lib.hid (fun W=>valid_any a n ha W)
 have HN:=Lib.hid (netAt_box w a n)
 cases hv:validS a n with
 | false =>
  rw [hv] at HV
  have HR:=Lib.hid (showRes_bad hv)
  clear hv
  go_enter Tryz.func185,Tryz.ntmps185
  go_wp2_with fail
  go_at_call 217
  refine (HV.out _).mono ?_
  rintro e w1 ⟨rfl,hb1⟩
  have HB:=Lib.hid (HN.out.next hb1)
  clear hb1
  go_wp2_with fail
  go_ret2
  exact ⟨by rw [HR.out];rfl,HB.out.2.2.1⟩
 | true =>
  rw [hv] at HV
  by_cases h0:n=0
  ·subst h0
   have HR:=Lib.hid (showRes_any hv)
   clear hv
   go_enter Tryz.func185,Tryz.ntmps185
   go_wp2_with fail
   go_at_call 217
   refine (HV.out _).mono ?_
   rintro e w1 ⟨rfl,hb1⟩
   obtain ⟨hc0,hc1,HB⟩:=NetAt.go HN hb1
   clear hb1
   go_wp2_with fail
   go_ret2
   exact ⟨by rw [HR.out];rfl,HB.out.2.2.1⟩
  ·have HR:=Lib.hid (showRes_net hv h0)
   have hn:=(AdrM.validS_mk.1 hv).1
   have HP:=Lib.hid (fun w1 (h:w1.cell? ⟨w.heap.size,0,none⟩=some (.int .u32 (a:Int))/\w1.cell? ⟨w.heap.size,1,none⟩=some (.int .i64 n)/\Hid (NetAt w a n w1))=>print_any a ha w1 (he.below h.2.2.out.2.2.1))
   have HI:=Lib.hid (fun w1=>itoa_any n hn.1 (by omega) w1)
   have hd:(n == 0)=false:=by simpa using h0
   have hl1:=AdrM.print_len a ha
   have hl2:=AdrM.decDigits_len_le 1 n.toNat (by omega)
   have hA1:=fun W=>add_text (P:=Tryz.prog) (printS a) [47] (by omega) (by simp) W
   have hA2:=fun W=>add_text (P:=Tryz.prog) (printS a ++ [47]) (decDigits n.toNat) (by simp;omega) (by omega) W
   have HR2:Hid (printS a ++ (47 :: decDigits n.toNat)=printS a ++ [47] ++ decDigits n.toNat):=by show _=_;simp
   clear hv he h0 hn hl1 hl2
   go_enter Tryz.func185,Tryz.ntmps185
   go_wp2_with fail
   go_at_call 217
   refine (HV.out _).mono ?_
   rintro e w1 ⟨rfl,hb1⟩
   obtain ⟨hc0,hc1,HB⟩:=NetAt.go HN hb1
   clear hb1
   go_wp2_with fail
   go_region_held3 (fun w'=>w'.cell? ⟨w.heap.size,0,none⟩=some (.int .u32 a)/\w'.cell? ⟨w.heap.size,1,none⟩=some (.int .i64 n)/\Hid (NetAt w a n w')) (first | exact NetAt.god (by assumption) | exact NetAt.goh (by assumption) (by assumption) | go_keep)
    (first
     | (go_at_call 243;refine (HP.out _ (by assumption)).mono ?_;rintro e w2 ⟨rfl,hbp⟩)
     | (go_at_call 244;refine (HI.out _).mono ?_;rintro e w' ⟨rfl,rfl⟩))
   go_wp2_with fail
   go_ret2
   have hh:w2.cell? ⟨w.heap.size,0,none⟩=some (.int .u32 (a:Int))/\w2.cell? ⟨w.heap.size,1,none⟩=some (.int .i64 n)/\Hid (NetAt w a n w2):=by assumption
   exact ⟨by rw [HR.out];rfl,hh.2.2.out.2.2.1⟩
theorem below_then {w w1 w2:World} (h:Below w.heap.size w w1) (h2:Below w1.heap.size w1 w2):Below w.heap.size w w2:=h.trans (h2.mono h.size)
theorem below_box (w:World) (o:Obj):Below w.heap.size w (w.alloc o):=(Below.refl _ _).alloc (Nat.le_refl _) _
open RulM (netL)
theorem show_good {a:Nat} {n:Int} (h:validS a n=true):showRes a n = .tuple #[.string ⟨(netL a n).toArray⟩,.int .i64 0]:=by
 unfold showRes;rw [RulM.show_yes h]
set_option maxRecDepth 100000 in
theorem isNet_any (a:Nat) (n:Int) (ha:a < 4294967296) (w:World) (he:Env w) :
  Calls Tryz.prog 130 #[.agg #[.int .u32 (a:Int),.int .i64 n]] w fun e w'=>e = .returned (.bool (validS a n))/\Below w.heap.size w w':=by
 have HN:=Lib.hid (netAt_box w a n)
 have HS:=Lib.hid (show_any a n ha (boxed w a n) (he.alloc _))
 clear he
 cases hv:validS a n with
 | false =>
  rw [showRes_bad hv] at HS
  clear hv
  obtain ⟨hc0,hc1,-,-⟩:=HN.out
  go_enter Tryz.func130,Tryz.ntmps130
  go_wp2_with fail
  go_at_call 185
  refine HS.out.mono ?_
  rintro e w1 ⟨rfl,hb⟩
  have HB:=Lib.hid (below_then (below_box _ _) hb)
  clear hb hc0 hc1
  go_wp2_with fail
  go_ret
  exact ⟨rfl,HB.out⟩
 | true =>
  rw [show_good hv] at HS
  clear hv
  obtain ⟨hc0,hc1,-,-⟩:=HN.out
  go_enter Tryz.func130,Tryz.ntmps130
  go_wp2_with fail
  go_at_call 185
  refine HS.out.mono ?_
  rintro e w1 ⟨rfl,hb⟩
  have HB:=Lib.hid (below_then (below_box _ _) hb)
  clear hb hc0 hc1
  go_wp2_with fail
  go_ret
  exact ⟨rfl,HB.out⟩
theorem isSpan_any (a b:Nat) (w:World) :
  Calls Tryz.prog 131 #[.agg #[.int .u16 (a:Int),.int .u16 (b:Int)]] w fun e w'=>e = .returned (.bool (decide (a<=b)))/\Below w.heap.size w w':=by
 have HB:=Lib.hid (below_box w (.cells #[.int .u16 (a:Int),.int .u16 (b:Int)] 78))
 go_enter Tryz.func131,Tryz.ntmps131
 go_wp2_with fail
 go_ret
 exact ⟨rfl,HB.out⟩
end Ah
end Go.Proofs.YtcockldefmmhbaaGreatDoor
set_option linter.unusedVariables false
set_option linter.unusedSimpArgs false
set_option maxRecDepth 100000
namespace Go.Proofs.YtcockldefmmhbaaGreatDoor
open Go.ChangeShapes Go.WideShapes Go.ChangeAt Go.RowKit Go.Mtl Go.Shelf Go.Lib
namespace Ah
open RulM (R wordS known protoP known_iff spanS netL verdL goodR goodR_iff wordsR)
open AdrM (anyL validS showS)
open Ru (protocolWord_any word_no)
theorem ret_str {a b:List UInt8} (h:a=b):Ending.returned (.string ⟨a.toArray⟩) = .returned (.string ⟨b.toArray⟩):=by rw [h]
abbrev cR (r:R):Array Value:=#[.bool r.acc,.int .u8 (r.pr:Int),.int .u32 (r.sa:Int),.int .i64 r.sb,.int .u32 (r.da:Int),.int .i64 r.db,.int .u16 (r.sl:Int),.int .u16 (r.sh:Int),.int .u16 (r.dl:Int),.int .u16 (r.dh:Int)]
structure RAt (w:World) (g:Nat) (r:R) (W:World):Prop where
 blk:Blk W g (cR r) 80
 bel:Below w.heap.size w W
theorem RAt.box (w:World) (r:R):RAt w w.heap.size r (w.alloc (.cells (cR r) 80)):=⟨Blk.box _ _ _,below_box _ _⟩
theorem RAt.next {w W W':World} {g:Nat} {r:R} (h:RAt w g r W) (hb:Below W.heap.size W W'):RAt w g r W':=⟨h.blk.next hb,below_then h.bel hb⟩
theorem RAt.c0 {w W:World} {g:Nat} {r:R} (h:RAt w g r W):W.cell? ⟨g,0,none⟩=some (.bool r.acc):=h.blk.cell 0 _ rfl
theorem RAt.c1 {w W:World} {g:Nat} {r:R} (h:RAt w g r W):W.cell? ⟨g,1,none⟩=some (.int .u8 (r.pr:Int)):=h.blk.cell 1 _ rfl
theorem RAt.c2 {w W:World} {g:Nat} {r:R} (h:RAt w g r W):W.cell? ⟨g,2,none⟩=some (.int .u32 (r.sa:Int)):=h.blk.cell 2 _ rfl
theorem RAt.c3 {w W:World} {g:Nat} {r:R} (h:RAt w g r W):W.cell? ⟨g,3,none⟩=some (.int .i64 r.sb):=h.blk.cell 3 _ rfl
theorem RAt.c4 {w W:World} {g:Nat} {r:R} (h:RAt w g r W):W.cell? ⟨g,4,none⟩=some (.int .u32 (r.da:Int)):=h.blk.cell 4 _ rfl
theorem RAt.c5 {w W:World} {g:Nat} {r:R} (h:RAt w g r W):W.cell? ⟨g,5,none⟩=some (.int .i64 r.db):=h.blk.cell 5 _ rfl
theorem RAt.c6 {w W:World} {g:Nat} {r:R} (h:RAt w g r W):W.cell? ⟨g,6,none⟩=some (.int .u16 (r.sl:Int)):=h.blk.cell 6 _ rfl
theorem RAt.c7 {w W:World} {g:Nat} {r:R} (h:RAt w g r W):W.cell? ⟨g,7,none⟩=some (.int .u16 (r.sh:Int)):=h.blk.cell 7 _ rfl
theorem RAt.c8 {w W:World} {g:Nat} {r:R} (h:RAt w g r W):W.cell? ⟨g,8,none⟩=some (.int .u16 (r.dl:Int)):=h.blk.cell 8 _ rfl
theorem RAt.c9 {w W:World} {g:Nat} {r:R} (h:RAt w g r W):W.cell? ⟨g,9,none⟩=some (.int .u16 (r.dh:Int)):=h.blk.cell 9 _ rfl
set_option maxRecDepth 100000 in
set_option maxHeartbeats 1000000 in
theorem good_0 (r:R) (ho:r.Ok) (w:World) (he:Env w)  (h0:known r.pr=false) :
  Calls Tryz.prog 93 #[.agg #[.bool r.acc,.int .u8 (r.pr:Int),.int .u32 (r.sa:Int),.int .i64 r.sb,.int .u32 (r.da:Int),.int .i64 r.db,.int .u16 (r.sl:Int),.int .u16 (r.sh:Int),.int .u16 (r.dl:Int),.int .u16 (r.dh:Int)]] w fun e w'=>e = .returned (.bool false)/\Below w.heap.size w w':=by
 have H0:=Lib.hid (fun W (h:Below w.heap.size w W)=>protocolWord_any r.pr ho.pr W)
 rw [h0] at H0
 have K:=RAt.box w r
 clear he ho h0
 have HK0:=Lib.hid K
 have d1:=K.c1
 clear K
 go_enter Tryz.func93,Tryz.ntmps93
 go_wp2_with fail
 go_at_call 129
 refine (H0.out _ HK0.out.bel).mono ?_
 rintro e w1 ⟨rfl,hb⟩
 have HK1:=Lib.hid (HK0.out.next hb)
 clear hb d1
 go_wp2_with fail
 go_ret
 exact ⟨rfl,HK1.out.bel⟩
set_option maxRecDepth 100000 in
set_option maxHeartbeats 1000000 in
theorem good_1 (r:R) (ho:r.Ok) (w:World) (he:Env w) (h0:known r.pr=true) (h1:validS r.sa r.sb=false) :
  Calls Tryz.prog 93 #[.agg #[.bool r.acc,.int .u8 (r.pr:Int),.int .u32 (r.sa:Int),.int .i64 r.sb,.int .u32 (r.da:Int),.int .i64 r.db,.int .u16 (r.sl:Int),.int .u16 (r.sh:Int),.int .u16 (r.dl:Int),.int .u16 (r.dh:Int)]] w fun e w'=>e = .returned (.bool false)/\Below w.heap.size w w':=by
 have H0:=Lib.hid (fun W (h:Below w.heap.size w W)=>protocolWord_any r.pr ho.pr W)
 rw [h0] at H0
 have H1:=Lib.hid (fun W (h:Below w.heap.size w W)=>isNet_any r.sa r.sb ho.sa W (he.below h))
 rw [h1] at H1
 have K:=RAt.box w r
 clear he ho h0 h1
 have HK0:=Lib.hid K
 have d1:=K.c1
 clear K
 go_enter Tryz.func93,Tryz.ntmps93
 go_wp2_with fail
 go_at_call 129
 refine (H0.out _ HK0.out.bel).mono ?_
 rintro e w1 ⟨rfl,hb⟩
 have HK1:=Lib.hid (HK0.out.next hb)
 have d2:=HK1.out.c2
 have d3:=HK1.out.c3
 clear hb d1
 go_wp2_with fail
 go_at_call 130
 refine (H1.out _ HK1.out.bel).mono ?_
 rintro e w2 ⟨rfl,hb⟩
 have HK2:=Lib.hid (HK1.out.next hb)
 clear hb d2 d3
 go_wp2_with fail
 go_ret
 exact ⟨rfl,HK2.out.bel⟩
set_option maxRecDepth 100000 in
set_option maxHeartbeats 1000000 in
theorem good_2 (r:R) (ho:r.Ok) (w:World) (he:Env w) (h0:known r.pr=true) (h1:validS r.sa r.sb=true) (h2:validS r.da r.db=false) :
  Calls Tryz.prog 93 #[.agg #[.bool r.acc,.int .u8 (r.pr:Int),.int .u32 (r.sa:Int),.int .i64 r.sb,.int .u32 (r.da:Int),.int .i64 r.db,.int .u16 (r.sl:Int),.int .u16 (r.sh:Int),.int .u16 (r.dl:Int),.int .u16 (r.dh:Int)]] w fun e w'=>e = .returned (.bool false)/\Below w.heap.size w w':=by
 have H0:=Lib.hid (fun W (h:Below w.heap.size w W)=>protocolWord_any r.pr ho.pr W)
 rw [h0] at H0
 have H1:=Lib.hid (fun W (h:Below w.heap.size w W)=>isNet_any r.sa r.sb ho.sa W (he.below h))
 rw [h1] at H1
 have H2:=Lib.hid (fun W (h:Below w.heap.size w W)=>isNet_any r.da r.db ho.da W (he.below h))
 rw [h2] at H2
 have K:=RAt.box w r
 clear he ho h0 h1 h2
 have HK0:=Lib.hid K
 have d1:=K.c1
 clear K
 go_enter Tryz.func93,Tryz.ntmps93
 go_wp2_with fail
 go_at_call 129
 refine (H0.out _ HK0.out.bel).mono ?_
 rintro e w1 ⟨rfl,hb⟩
 have HK1:=Lib.hid (HK0.out.next hb)
 have d2:=HK1.out.c2
 have d3:=HK1.out.c3
 clear hb d1
 go_wp2_with fail
 go_at_call 130
 refine (H1.out _ HK1.out.bel).mono ?_
 rintro e w2 ⟨rfl,hb⟩
 have HK2:=Lib.hid (HK1.out.next hb)
 have d4:=HK2.out.c4
 have d5:=HK2.out.c5
 clear hb d2 d3
 go_wp2_with fail
 go_at_call 130
 refine (H2.out _ HK2.out.bel).mono ?_
 rintro e w3 ⟨rfl,hb⟩
 have HK3:=Lib.hid (HK2.out.next hb)
 clear hb d4 d5
 go_wp2_with fail
 go_ret
 exact ⟨rfl,HK3.out.bel⟩
set_option maxRecDepth 100000 in
set_option maxHeartbeats 1000000 in
theorem good_3 (r:R) (ho:r.Ok) (w:World) (he:Env w) (h0:known r.pr=true) (h1:validS r.sa r.sb=true) (h2:validS r.da r.db=true) (h3:decide (r.sl<=r.sh)=false) :
  Calls Tryz.prog 93 #[.agg #[.bool r.acc,.int .u8 (r.pr:Int),.int .u32 (r.sa:Int),.int .i64 r.sb,.int .u32 (r.da:Int),.int .i64 r.db,.int .u16 (r.sl:Int),.int .u16 (r.sh:Int),.int .u16 (r.dl:Int),.int .u16 (r.dh:Int)]] w fun e w'=>e = .returned (.bool false)/\Below w.heap.size w w':=by
 have H0:=Lib.hid (fun W (h:Below w.heap.size w W)=>protocolWord_any r.pr ho.pr W)
 rw [h0] at H0
 have H1:=Lib.hid (fun W (h:Below w.heap.size w W)=>isNet_any r.sa r.sb ho.sa W (he.below h))
 rw [h1] at H1
 have H2:=Lib.hid (fun W (h:Below w.heap.size w W)=>isNet_any r.da r.db ho.da W (he.below h))
 rw [h2] at H2
 have H3:=Lib.hid (fun W (h:Below w.heap.size w W)=>isSpan_any r.sl r.sh W)
 rw [h3] at H3
 have K:=RAt.box w r
 clear he ho h0 h1 h2 h3
 have HK0:=Lib.hid K
 have d1:=K.c1
 clear K
 go_enter Tryz.func93,Tryz.ntmps93
 go_wp2_with fail
 go_at_call 129
 refine (H0.out _ HK0.out.bel).mono ?_
 rintro e w1 ⟨rfl,hb⟩
 have HK1:=Lib.hid (HK0.out.next hb)
 have d2:=HK1.out.c2
 have d3:=HK1.out.c3
 clear hb d1
 go_wp2_with fail
 go_at_call 130
 refine (H1.out _ HK1.out.bel).mono ?_
 rintro e w2 ⟨rfl,hb⟩
 have HK2:=Lib.hid (HK1.out.next hb)
 have d4:=HK2.out.c4
 have d5:=HK2.out.c5
 clear hb d2 d3
 go_wp2_with fail
 go_at_call 130
 refine (H2.out _ HK2.out.bel).mono ?_
 rintro e w3 ⟨rfl,hb⟩
 have HK3:=Lib.hid (HK2.out.next hb)
 have d6:=HK3.out.c6
 have d7:=HK3.out.c7
 clear hb d4 d5
 go_wp2_with fail
 go_at_call 131
 refine (H3.out _ HK3.out.bel).mono ?_
 rintro e w4 ⟨rfl,hb⟩
 have HK4:=Lib.hid (HK3.out.next hb)
 clear hb d6 d7
 go_wp2_with fail
 go_ret
 exact ⟨rfl,HK4.out.bel⟩
set_option maxRecDepth 100000 in
set_option maxHeartbeats 1000000 in
theorem good_4 (r:R) (ho:r.Ok) (w:World) (he:Env w) (h0:known r.pr=true) (h1:validS r.sa r.sb=true) (h2:validS r.da r.db=true) (h3:decide (r.sl<=r.sh)=true) (h4:decide (r.dl<=r.dh)=false) :
  Calls Tryz.prog 93 #[.agg #[.bool r.acc,.int .u8 (r.pr:Int),.int .u32 (r.sa:Int),.int .i64 r.sb,.int .u32 (r.da:Int),.int .i64 r.db,.int .u16 (r.sl:Int),.int .u16 (r.sh:Int),.int .u16 (r.dl:Int),.int .u16 (r.dh:Int)]] w fun e w'=>e = .returned (.bool false)/\Below w.heap.size w w':=by
 have H0:=Lib.hid (fun W (h:Below w.heap.size w W)=>protocolWord_any r.pr ho.pr W)
 rw [h0] at H0
 have H1:=Lib.hid (fun W (h:Below w.heap.size w W)=>isNet_any r.sa r.sb ho.sa W (he.below h))
 rw [h1] at H1
 have H2:=Lib.hid (fun W (h:Below w.heap.size w W)=>isNet_any r.da r.db ho.da W (he.below h))
 rw [h2] at H2
 have H3:=Lib.hid (fun W (h:Below w.heap.size w W)=>isSpan_any r.sl r.sh W)
 rw [h3] at H3
 have H4:=Lib.hid (fun W (h:Below w.heap.size w W)=>isSpan_any r.dl r.dh W)
 rw [h4] at H4
 have K:=RAt.box w r
 clear he ho h0 h1 h2 h3 h4
 have HK0:=Lib.hid K
 have d1:=K.c1
 clear K
 go_enter Tryz.func93,Tryz.ntmps93
 go_wp2_with fail
 go_at_call 129
 refine (H0.out _ HK0.out.bel).mono ?_
 rintro e w1 ⟨rfl,hb⟩
 have HK1:=Lib.hid (HK0.out.next hb)
 have d2:=HK1.out.c2
 have d3:=HK1.out.c3
 clear hb d1
 go_wp2_with fail
 go_at_call 130
 refine (H1.out _ HK1.out.bel).mono ?_
 rintro e w2 ⟨rfl,hb⟩
 have HK2:=Lib.hid (HK1.out.next hb)
 have d4:=HK2.out.c4
 have d5:=HK2.out.c5
 clear hb d2 d3
 go_wp2_with fail
 go_at_call 130
 refine (H2.out _ HK2.out.bel).mono ?_
 rintro e w3 ⟨rfl,hb⟩
 have HK3:=Lib.hid (HK2.out.next hb)
 have d6:=HK3.out.c6
 have d7:=HK3.out.c7
 clear hb d4 d5
 go_wp2_with fail
 go_at_call 131
 refine (H3.out _ HK3.out.bel).mono ?_
 rintro e w4 ⟨rfl,hb⟩
 have HK4:=Lib.hid (HK3.out.next hb)
 have d8:=HK4.out.c8
 have d9:=HK4.out.c9
 clear hb d6 d7
 go_wp2_with fail
 go_at_call 131
 refine (H4.out _ HK4.out.bel).mono ?_
 rintro e w5 ⟨rfl,hb⟩
 have HK5:=Lib.hid (HK4.out.next hb)
 clear hb d8 d9
 go_wp2_with fail
 go_ret
 exact ⟨rfl,HK5.out.bel⟩
set_option maxRecDepth 100000 in
set_option maxHeartbeats 1000000 in
theorem good_5 (r:R) (ho:r.Ok) (w:World) (he:Env w) (h0:known r.pr=true) (h1:validS r.sa r.sb=true) (h2:validS r.da r.db=true) (h3:decide (r.sl<=r.sh)=true) (h4:decide (r.dl<=r.dh)=true) :
  Calls Tryz.prog 93 #[.agg #[.bool r.acc,.int .u8 (r.pr:Int),.int .u32 (r.sa:Int),.int .i64 r.sb,.int .u32 (r.da:Int),.int .i64 r.db,.int .u16 (r.sl:Int),.int .u16 (r.sh:Int),.int .u16 (r.dl:Int),.int .u16 (r.dh:Int)]] w fun e w'=>e = .returned (.bool true)/\Below w.heap.size w w':=by
 have H0:=Lib.hid (fun W (h:Below w.heap.size w W)=>protocolWord_any r.pr ho.pr W)
 rw [h0] at H0
 have H1:=Lib.hid (fun W (h:Below w.heap.size w W)=>isNet_any r.sa r.sb ho.sa W (he.below h))
 rw [h1] at H1
 have H2:=Lib.hid (fun W (h:Below w.heap.size w W)=>isNet_any r.da r.db ho.da W (he.below h))
 rw [h2] at H2
 have H3:=Lib.hid (fun W (h:Below w.heap.size w W)=>isSpan_any r.sl r.sh W)
 rw [h3] at H3
 have H4:=Lib.hid (fun W (h:Below w.heap.size w W)=>isSpan_any r.dl r.dh W)
 rw [h4] at H4
 have K:=RAt.box w r
 clear he ho h0 h1 h2 h3 h4
 have HK0:=Lib.hid K
 have d1:=K.c1
 clear K
 go_enter Tryz.func93,Tryz.ntmps93
 go_wp2_with fail
 go_at_call 129
 refine (H0.out _ HK0.out.bel).mono ?_
 rintro e w1 ⟨rfl,hb⟩
 have HK1:=Lib.hid (HK0.out.next hb)
 have d2:=HK1.out.c2
 have d3:=HK1.out.c3
 clear hb d1
 go_wp2_with fail
 go_at_call 130
 refine (H1.out _ HK1.out.bel).mono ?_
 rintro e w2 ⟨rfl,hb⟩
 have HK2:=Lib.hid (HK1.out.next hb)
 have d4:=HK2.out.c4
 have d5:=HK2.out.c5
 clear hb d2 d3
 go_wp2_with fail
 go_at_call 130
 refine (H2.out _ HK2.out.bel).mono ?_
 rintro e w3 ⟨rfl,hb⟩
 have HK3:=Lib.hid (HK2.out.next hb)
 have d6:=HK3.out.c6
 have d7:=HK3.out.c7
 clear hb d4 d5
 go_wp2_with fail
 go_at_call 131
 refine (H3.out _ HK3.out.bel).mono ?_
 rintro e w4 ⟨rfl,hb⟩
 have HK4:=Lib.hid (HK3.out.next hb)
 have d8:=HK4.out.c8
 have d9:=HK4.out.c9
 clear hb d6 d7
 go_wp2_with fail
 go_at_call 131
 refine (H4.out _ HK4.out.bel).mono ?_
 rintro e w5 ⟨rfl,hb⟩
 have HK5:=Lib.hid (HK4.out.next hb)
 clear hb d8 d9
 go_wp2_with fail
 go_ret
 exact ⟨rfl,HK5.out.bel⟩
theorem good_any (r:R) (ho:r.Ok) (w:World) (he:Env w) :
  Calls Tryz.prog 93 #[.agg #[.bool r.acc,.int .u8 (r.pr:Int),.int .u32 (r.sa:Int),.int .i64 r.sb,.int .u32 (r.da:Int),.int .i64 r.db,.int .u16 (r.sl:Int),.int .u16 (r.sh:Int),.int .u16 (r.dl:Int),.int .u16 (r.dh:Int)]] w fun e w'=>e = .returned (.bool (goodR r))/\Below w.heap.size w w':=by
 unfold goodR
 cases h0:known r.pr with
 | false=>exact (good_0 r ho w he h0).mono fun e w' ⟨a,b⟩=>⟨by rw [a];simp only [h0,Bool.false_and,Bool.and_false],b⟩
 | true =>
  cases h1:validS r.sa r.sb with
  | false=>exact (good_1 r ho w he h0 h1).mono fun e w' ⟨a,b⟩=>⟨by rw [a];simp only [h1,Bool.false_and,Bool.and_false],b⟩
  | true =>
   cases h2:validS r.da r.db with
   | false=>exact (good_2 r ho w he h0 h1 h2).mono fun e w' ⟨a,b⟩=>⟨by rw [a];simp only [h2,Bool.false_and,Bool.and_false],b⟩
   | true =>
    cases h3:decide (r.sl<=r.sh) with
    | false=>exact (good_3 r ho w he h0 h1 h2 h3).mono fun e w' ⟨a,b⟩=>⟨by rw [a];simp only [h3,Bool.false_and,Bool.and_false],b⟩
    | true =>
     cases h4:decide (r.dl<=r.dh) with
     | false=>exact (good_4 r ho w he h0 h1 h2 h3 h4).mono fun e w' ⟨a,b⟩=>⟨by rw [a];simp only [h4,Bool.false_and,Bool.and_false],b⟩
     | true =>
      exact (good_5 r ho w he h0 h1 h2 h3 h4).mono fun e w' ⟨a,b⟩=>⟨by rw [a];rfl,b⟩
end Ah
end Go.Proofs.YtcockldefmmhbaaGreatDoor
