import Derived.Test.YtcockldefmmhbaaGreatDoorRows
import Derived.Test.YtcockldefmmhbaaGreatDoorJ7
import Derived.WalkKit
import Derived.ProofKit
import Derived.OpenShut
import Derived.BigQuiet
import Derived.Lib.Hide
set_option linter.unusedVariables false
set_option maxRecDepth 100000
namespace Go.Proofs.YtcockldefmmhbaaGreatDoor
open Go.ChangeShapes Go.WideShapes Go.ChangeAt Go.RowKit
namespace Fld
open FldM
def vld (a s:Int):Prop:=0<=a/\1<=s/\s<=64/\a<=64 - s
def getI (w a s:Int):Int:=(getN w.toNat a.toNat s.toNat:Nat)
def putI (w a s v:Int):Int:=(putN w.toNat a.toNat s.toNat v.toNat:Nat)
theorem valid_yes (a s:Int) (h0:0<=a) (h1:1<=s) (h2:s<=64) (h3:a<=64 - s) (w:World) :
  Calls Tryz.prog 182 #[.int .i64 a,.int .i64 s] w fun e w'=>e = .returned (.bool true)/\w=w':=by
 go_enter Tryz.func182,Tryz.ntmps182
 go_wp2
 go_ret
 exact ⟨rfl,rfl⟩
theorem valid_no (a s:Int) (h : ¬ vld a s) (w:World) :
  Calls Tryz.prog 182 #[.int .i64 a,.int .i64 s] w fun e w'=>e = .returned (.bool false)/\w=w':=by
 unfold vld at h
 by_cases h0:0<=a
 ·by_cases h1:1<=s
  ·by_cases h2:s<=64
   ·have h3 : ¬ a<=64 - s:=by omega
    clear h
    go_enter Tryz.func182,Tryz.ntmps182
    go_wp2
    go_ret
    exact ⟨rfl,rfl⟩
   ·clear h
    go_enter Tryz.func182,Tryz.ntmps182
    go_wp2
    go_ret
    exact ⟨rfl,rfl⟩
  ·clear h
   go_enter Tryz.func182,Tryz.ntmps182
   go_wp2
   go_ret
   exact ⟨rfl,rfl⟩
 ·clear h
  go_enter Tryz.func182,Tryz.ntmps182
  go_wp2
  go_ret
  exact ⟨rfl,rfl⟩
def onesI (s:Int):Int:=(2 ^ s.toNat - 1:Nat)
theorem onesI_bd (s:Int) (h1:1<=s) (h2:s<=64):1<=onesI s/\onesI s < 18446744073709551616:=by
 unfold onesI
 have hp:0 < 2 ^ s.toNat:=Nat.two_pow_pos _
 have h:2 ^ s.toNat<=2 ^ 64:=Nat.pow_le_pow_right (by decide) (by omega)
 have h':2 ^ 1<=2 ^ s.toNat:=Nat.pow_le_pow_right (by decide) (by omega)
 omega
theorem ones_is (s:Int) (h1:1<=s) (h2:s<=64):(18446744073709551615:Int) / 2 ^ (64 - s).toNat=onesI s:=by
 have:=ones_eq s.toNat (by omega) (by omega)
 unfold onesI
 rw [← this,show 64 - s.toNat=(64 - s).toNat by omega]
 simp
theorem ones_any (s:Int) (h1:1<=s) (h2:s<=64) (w:World) :
  Calls Tryz.prog 183 #[.int .i64 s] w fun e w'=>e = .returned (.int .u64 (onesI s))/\w=w':=by
 go_enter Tryz.func183,Tryz.ntmps183
 go_wp2
 go_ret
 exact ⟨by rw [← ones_is s h1 h2];rfl,rfl⟩
theorem and_u64 (x y:Int) (h1:0<=x) (h2:x < 18446744073709551616) (h3:0<=y) (h4:y < 18446744073709551616):bits .and .u64 x y=((x.toNat &&& y.toNat:Nat):Int):=u64_and x y h1 h2 h3 h4
theorem div_pow_bd (w:Int) (n:Nat) (hw0:0<=w) (hw:w < 18446744073709551616):0<=w / 2 ^ n/\w / 2 ^ n < 18446744073709551616:=by
 have hp:(0:Int) < 2 ^ n:=Int.pow_pos (by decide)
 exact ⟨Int.ediv_nonneg hw0 (by omega),Int.lt_of_le_of_lt (Int.ediv_le_self _ hw0) hw⟩
theorem toNat_div_pow (w:Int) (n:Nat) (hw0:0<=w):(w / 2 ^ n).toNat=w.toNat / 2 ^ n:=by
 obtain ⟨k,rfl⟩:=Int.eq_ofNat_of_zero_le hw0
 have:((k:Int) / 2 ^ n)=((k / 2 ^ n:Nat):Int):=by simp
 rw [this,Int.toNat_natCast,Int.toNat_natCast]
theorem get_is (w a s:Int) (hw0:0<=w) (hw:w < 18446744073709551616) (h1:1<=s) (h2:s<=64):bits .and .u64 (w / 2 ^ a.toNat) (onesI s)=getI w a s:=by
 have ho:=onesI_bd s h1 h2
 have hd:=div_pow_bd w a.toNat hw0 hw
 rw [u64_and _ _ hd.1 hd.2 (by omega) ho.2,toNat_div_pow _ _ hw0]
 unfold onesI getI
 rw [Int.toNat_natCast,get_code]
theorem get_yes (w a s:Int) (hw0:0<=w) (hw:w < 18446744073709551616) (h0:0<=a) (h1:1<=s) (h3:a<=64 - s) (W:World) :
  Calls Tryz.prog 124 #[.int .u64 w,.int .i64 a,.int .i64 s] W fun e w'=>e = .returned (.int .u64 (getI w a s))/\∃ n,w'=W.drewN n:=by
 have h2:s<=64:=by omega
 have ho:=onesI_bd s h1 h2
 have HF:=Lib.hid (get_is w a s hw0 hw h1 h2)
 go_enter Tryz.func124,Tryz.ntmps124
 go_wp2_with (go_at_call 182;refine (valid_yes _ _ h0 h1 h2 h3 _).mono ?_;rintro e w' ⟨rfl,rfl⟩)
 go_quiet ((go_at_call 183;exact Calls.quiet_of_same ((ones_any _ h1 h2 _).mono fun _ _ ⟨he,hh⟩=>⟨he,hh.symm⟩)))
 go_wp2
 go_ret
 exact ⟨by rw [← HF.out];rfl,_,rfl⟩
theorem u64_wrap (n:Int):IntKind.u64.wrap n=n % 18446744073709551616:=by
 simp [IntKind.wrap,IntKind.bits,IntKind.signed]
theorem put_is (w a s v:Int) (hw0:0<=w) (hw:w < 18446744073709551616) (hv0:0<=v) (hv:v < 18446744073709551616) (h0:0<=a) (h1:1<=s) (h3:a<=64 - s) :
  bits .or .u64 (bits .andNot .u64 w (IntKind.u64.wrap (onesI s * 2 ^ a.toNat))) (IntKind.u64.wrap (bits .and .u64 v (onesI s) * 2 ^ a.toNat))=putI w a s v:=by
 have h2:s<=64:=by omega
 have ho:=onesI_bd s h1 h2
 rw [and_u64 v _ hv0 hv (by omega) ho.2,u64_wrap,u64_wrap]
 have hp:(0:Int) < 2 ^ a.toNat:=Int.pow_pos (by decide)
 have e1:(onesI s * 2 ^ a.toNat % 18446744073709551616:Int)=(((2 ^ s.toNat - 1) * 2 ^ a.toNat % 2 ^ 64:Nat):Int):=by
  unfold onesI;simp
 have e2:(((v.toNat &&& (onesI s).toNat:Nat):Int) * 2 ^ a.toNat % 18446744073709551616)=(((v.toNat &&& (2 ^ s.toNat - 1)) * 2 ^ a.toNat % 2 ^ 64:Nat):Int):=by
  unfold onesI;simp
 rw [e1,e2]
 have l1:(2 ^ s.toNat - 1) * 2 ^ a.toNat % 2 ^ 64 < 2 ^ 64:=Nat.mod_lt _ (by decide)
 have l2:(v.toNat &&& (2 ^ s.toNat - 1)) * 2 ^ a.toNat % 2 ^ 64 < 2 ^ 64:=Nat.mod_lt _ (by decide)
 rw [u64_andNot w _ hw0 hw (by omega) (by omega),u64_or _ _ (by omega) (by have:=Nat.and_le_left (n:=w.toNat) (m:=18446744073709551615 - (((2 ^ s.toNat - 1) * 2 ^ a.toNat % 2 ^ 64:Nat):Int).toNat);omega) (by omega) (by omega)]
 unfold putI
 rw [← put_code w.toNat a.toNat s.toNat v.toNat (by omega) (by omega) (by omega)]
 simp only [Int.toNat_natCast]
theorem put_yes (w a s v:Int) (hw0:0<=w) (hw:w < 18446744073709551616) (hv0:0<=v) (hv:v < 18446744073709551616) (h0:0<=a) (h1:1<=s) (h3:a<=64 - s) (W:World) :
  Calls Tryz.prog 207 #[.int .u64 w,.int .i64 a,.int .i64 s,.int .u64 v] W fun e w'=>e = .returned (.int .u64 (putI w a s v))/\∃ n,w'=W.drewN n:=by
 have h2:s<=64:=by omega
 have ho:=onesI_bd s h1 h2
 have HF:=Lib.hid (put_is w a s v hw0 hw hv0 hv h0 h1 h3)
 go_enter Tryz.func207,Tryz.ntmps207
 go_wp2_with (first | (go_at_call 182;refine (valid_yes _ _ h0 h1 h2 h3 _).mono ?_;rintro e w' ⟨rfl,rfl⟩) | (go_at_call 183;refine (ones_any _ h1 h2 _).mono ?_;rintro e w' ⟨rfl,rfl⟩))
 go_quiet (fail)
 go_wp2
 go_ret
 exact ⟨by rw [← HF.out];rfl,_,rfl⟩
end Fld
end Go.Proofs.YtcockldefmmhbaaGreatDoor
