/- Several texts of this proof in one file, each in its own namespace. -/
import Derived.Test.YtcockldefmmhbaaGreatDoorKeyM
import Derived.Test.YtcockldefmmhbaaGreatDoorRows
import Derived.Test.YtcockldefmmhbaaGreatDoorJ12
import Derived.WalkKit
import Derived.ProofKit
import Derived.OpenShut
import Derived.BigQuiet
import Derived.Laws.BitsAllLaws
import Derived.Test.YtcockldefmmhbaaGreatDoorFldA
set_option linter.unusedVariables false
set_option linter.unusedSimpArgs false
set_option maxRecDepth 100000
namespace Go.Proofs.YtcockldefmmhbaaGreatDoor
open Go.ChangeShapes Go.WideShapes Go.ChangeAt Go.RowKit Go.Mtl Go.Lib
namespace Au
def o1 (x:Int):Int:=IntKind.u64.wrap (bits .and .u64 (x / 2) 6148914691236517205+bits .and .u64 x 6148914691236517205)
def o2 (x:Int):Int:=IntKind.u64.wrap (bits .and .u64 (x / 4) 3689348814741910323+bits .and .u64 x 3689348814741910323)
def o3 (x:Int):Int:=bits .and .u64 (IntKind.u64.wrap (x / 16+x)) 1085102592571150095
def o4 (x:Int):Int:=IntKind.u64.wrap (x+x / 256)
def o5 (x:Int):Int:=IntKind.u64.wrap (x+x / 65536)
def o6 (x:Int):Int:=IntKind.u64.wrap (x+x / 4294967296)
def o7 (x:Int):Int:=bits .and .i64 (wrap64 x) 127
def ones (x:Int):Int:=o7 (o6 (o5 (o4 (o3 (o2 (o1 x))))))
theorem ones_any (x:Int) (w:World):Calls Tryz.prog 92 #[.int .u64 x] w fun e w'=>e = .returned (.int .i64 (ones x))/\w=w':=by
 unfold ones
 have h1:IntKind.u64.wrap (bits .and .u64 (x / 2) 6148914691236517205+bits .and .u64 x 6148914691236517205)=o1 x:=rfl
 generalize o1 x=y1 at h1
 have h2:IntKind.u64.wrap (bits .and .u64 (y1 / 4) 3689348814741910323+bits .and .u64 y1 3689348814741910323)=o2 y1:=rfl
 generalize o2 y1=y2 at h2
 have h3:bits .and .u64 (IntKind.u64.wrap (y2 / 16+y2)) 1085102592571150095=o3 y2:=rfl
 generalize o3 y2=y3 at h3
 have h4:IntKind.u64.wrap (y3+y3 / 256)=o4 y3:=rfl
 generalize o4 y3=y4 at h4
 have h5:IntKind.u64.wrap (y4+y4 / 65536)=o5 y4:=rfl
 generalize o5 y4=y5 at h5
 have h6:IntKind.u64.wrap (y5+y5 / 4294967296)=o6 y5:=rfl
 generalize o6 y5=y6 at h6
 have h7:bits .and .i64 (wrap64 y6) 127=o7 y6:=rfl
 generalize o7 y6=y7 at h7
 go_enter Tryz.func92,Tryz.ntmps92
 go_wp2_with fail
 go_ret
 exact ⟨rfl,rfl⟩
theorem ones_pow:∀ n:Fin 4097,(ones (n.val:Int) == 1)=KeyM.isPow (n.val:Int):=by decide +kernel
end Au
end Go.Proofs.YtcockldefmmhbaaGreatDoor
set_option linter.unusedVariables false
set_option maxRecDepth 100000
namespace Go.Proofs.YtcockldefmmhbaaGreatDoor
open Go.ChangeShapes Go.WideShapes Go.ChangeAt Go.RowKit Go.Mtl
namespace Fld
open FldM
theorem holds_yes (l a s:Int) (h0:0<=a) (h1:1<=s) (h2:s<=8) (h3:a<=l - s) (hl:0<=l/\l<=9223372036854775807) (w:World) :
  Calls Tryz.prog 248 #[.int .i64 l,.int .i64 a,.int .i64 s] w fun e w'=>e = .returned (.bool true)/\w=w':=by
 go_enter Tryz.func248,Tryz.ntmps248
 go_wp2
 go_ret
 exact ⟨rfl,rfl⟩
def numI (bs:List UInt8) (a k:Nat):Int:=(numN ((bs.drop a).take k):Nat)
theorem numI_zero (bs:List UInt8) (a:Nat):numI bs a 0=0:=by simp [numI,numN]
theorem numI_step (bs:List UInt8) (a k:Nat) (h:a+k < bs.length):numI bs a (k+1)=numI bs a k * 256+(byt bs (a+k):Int):=by
 unfold numI
 rw [take_snoc _ _ (by simp;omega),numN_snoc]
 simp [byt,List.getD]
theorem numI_bd (bs:List UInt8) (a k:Nat) (hk:k<=7):0<=numI bs a k/\numI bs a k < 72057594037927936:=by
 have h:=numN_lt ((bs.drop a).take k)
 have hl:((bs.drop a).take k).length<=k:=List.length_take_le _ _
 have hp:256 ^ ((bs.drop a).take k).length<=256 ^ 7:=Nat.pow_le_pow_right (by decide) (by omega)
 unfold numI;omega
theorem num_code (bs:List UInt8) (a k:Nat) (hk:k<=7) (h:a+k < bs.length) :
  bits .or .u64 (IntKind.u64.wrap (numI bs a k * 256)) (byt bs (a+k):Int)=numI bs a (k+1):=by
 have hb:=numI_bd bs a k hk
 have hc:=byt_lt bs (a+k)
 rw [numI_step bs a k h,u64_wrap]
 obtain ⟨n,hn⟩:=Int.eq_ofNat_of_zero_le hb.1
 rw [hn] at hb ⊢
 have e:((n:Int) * 256 % 18446744073709551616)=((n * 256:Nat):Int):=by omega
 rw [e,u64_or_nat _ _ (by omega) (by omega),nat_join 8 _ _ (by omega) (by omega)]
 omega
theorem num_yes (b off len cap:Nat) (bs:List UInt8) (a s:Nat) (hl:bs.length=len) (hlc:len<=cap) (hcap:cap<=9223372036854775807)
  (h1:1<=s) (h2:s<=8) (h3:a+s<=len) (W:World) (hc:∀ j,j < len->W.cell? ⟨b,off+j,none⟩=some (.int .u8 (byt bs j:Int))) :
  Calls Tryz.prog 190 #[.slice (some ⟨b,off,none⟩) len cap,.int .i64 (a:Int),.int .i64 (s:Int)] W fun e w'=>e = .returned (.tuple #[.int .u64 (numI bs a s),.bool true])/\W=w':=by
 go_enter Tryz.func190,Tryz.ntmps190
 go_wp2_with (go_at_call 248;refine (holds_yes _ _ _ (by omega) (by omega) (by omega) (by omega) (by omega) _).mono ?_;rintro e w' ⟨rfl,rfl⟩)
 go_loop [8,10,24] (fun n _ i=>∃ k:Nat,k<=s/\i = .int .i64 (k:Int)/\n = .int .u64 (numI bs a k)) (fun _ _ i=>s - (intOf i).toNat)
 case atStart=>exact ⟨0,by omega,rfl,by rw [numI_zero]⟩
 case round =>
  obtain ⟨k,hk,rfl,rfl⟩:=hrel
  have hcell:k < s->W.cell? ⟨b,off+a+k,none⟩=some (.int .u8 (byt bs (a+k):Int)):=fun h=>by rw [Nat.add_assoc];exact hc (a+k) (by omega)
  have HC:=Lib.hid hc
  clear hc
  by_cases hlt:k < s
  ·have hk1:=hcell hlt
   clear hcell
   have HS:=Lib.hid (num_code bs a k (by omega) (by omega))
   have hb:=byt_lt bs (a+k)
   go_wp2
   go_round
   case rel=>exact ⟨k+1,by omega,by go_num,by rw [← HS.out]⟩
   case measure=>simp [intOf];omega
  ·have HK:Hid (k=s):=by show k=s;omega
   clear hcell
   go_wp2
   go_ret2
   exact ⟨by rw [← HK.out];rfl,rfl⟩
theorem u8_info:(Tryz.prog.info? 5).map (fun i=>(i.zero,i.size,i.bytes))=some (some (.int .u8 0),1,1):=by kernel_rfl
theorem cut_byte (v:Int) (s k:Nat) (hv0:0<=v) (hk:k < s):(v / 2 ^ (8 * (s - 1 - k))) % 256=((byt (cutN v.toNat s) k:Nat):Int):=by
 unfold byt
 rw [cutN_get _ _ _ hk]
 obtain ⟨n,rfl⟩:=Int.eq_ofNat_of_zero_le hv0
 simp
def CutAt (W:World) (v s:Nat) (g:Nat) (k:Nat) (w':World):Prop :=
 Below W.heap.size W w'/\∃ l:List UInt8,l.length=s/\(∀ j,j < k->byt l j=byt (cutN v s) j)/\w'.ownsRow W.heap.size 5 1 (.slice (some ⟨g,0,none⟩) s s) s (bvs l)
theorem cutAt_step {W wr:World} {v s g k:Nat} (hg:W.heap.size<=g) (hk:k < s) (l:List UInt8) (x:Int) (hx:x=((byt (cutN v s) k:Nat):Int)) (hbel:Below W.heap.size W wr) (hl:l.length=s)
  (hby:∀ j,j < k->byt l j=byt (cutN v s) j) (ho:wr.ownsRow W.heap.size 5 1 (.slice (some ⟨g,0,none⟩) s s) s (bvs l)):CutAt W v s g (k+1) (wr.setCell ⟨g,k,none⟩ (.int .u8 x)):=by
 subst hx
 obtain ⟨o1,_⟩:=ho.stored k (.int .u8 ((byt (cutN v s) k:Nat):Int))
 refine ⟨hbel.setCell hg _,l.set k ((cutN v s).getD k 0),by simpa using hl,fun j hj=>?_,?_⟩
 ·rw [byt_set _ _ _ _ (by omega)]
  split
  ·rename_i e;subst e;rfl
  ·exact hby j (by omega)
 ·rw [← bvs_set];exact o1
end Fld
end Go.Proofs.YtcockldefmmhbaaGreatDoor
