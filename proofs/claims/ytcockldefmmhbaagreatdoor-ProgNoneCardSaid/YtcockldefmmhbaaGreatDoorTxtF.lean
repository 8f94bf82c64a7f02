import Derived.Test.YtcockldefmmhbaaGreatDoorJ10
import Derived.Shelf.GgClosure.StringsIndexFunc
import Derived.Lib.TrimUEq
set_option linter.unusedVariables false
set_option linter.unusedSimpArgs false
namespace Go.TxtM
open Go.Lib
def invR (x:Nat):Bool:=!decide (x=10) && (decide (x < 32) || decide (126 < x))
theorem invR_byte (b:UInt8):invR b.toNat = !okb b:=by
 have:=b.toNat_lt
 have e:(b == 10)=decide (b.toNat=10):=by
  rw [Bool.eq_iff_iff,beq_iff_eq,decide_eq_true_iff]
  exact ⟨fun h=>by rw [h];rfl,fun h=>UInt8.toNat_inj.1 h⟩
 unfold invR okb
 rw [e,Bool.eq_iff_iff]
 simp
theorem decode_high (n b0 b1 b2 b3:Nat) (h:128<=b0):126 < (decodeN n b0 b1 b2 b3).1:=by
 unfold decodeN
 repeat' split
 all_goals simp only
 all_goals omega
theorem idx_is (s:ByteArray):∀ (gf pos:Nat),pos<=s.size->s.size<=pos+gf →
  idxFuncFrom invR true s gf pos=if (s.data.toList.drop pos).all okb=true then -1 else ((pos+((s.data.toList.drop pos).takeWhile okb).length:Nat):Int):=by
 intro gf
 have hz:s.size=s.data.toList.length:=Lib.size_eq s
 induction gf with
 | zero =>
  intro pos h1 h2
  rw [List.drop_eq_nil_of_le (by omega)]
  rfl
 | succ gf ih =>
  intro pos h1 h2
  by_cases hlt:pos < s.size
  ·have hd:s.data.toList.drop pos=s.data.toList[pos]'(by omega) :: s.data.toList.drop (pos+1):=List.drop_eq_getElem_cons (by omega)
   have hb:s.data.toList.getD pos 0=s.data.toList[pos]'(by omega):=by rw [List.getD_eq_getElem?_getD,List.getElem?_eq_getElem (by omega)];rfl
   have hdec:=decode_N s pos
   rw [hb] at hdec
   rw [hd]
   generalize s.data.toList[pos]'(by omega)=b at hdec ⊢
   unfold idxFuncFrom
   rw [if_pos hlt]
   rw [List.all_cons,List.takeWhile_cons]
   rcases Nat.lt_or_ge b.toNat 128 with h | h
   ·rw [decodeN_ascii _ _ _ _ _ h] at hdec
    rw [hdec]
    show (if invR b.toNat=true then _ else idxFuncFrom invR true s gf (pos+1))=_
    rw [invR_byte,ih (pos+1) (by omega) (by omega)]
    cases hk:okb b with
    | false=>simp
    | true =>
     rw [if_neg (by simp),Bool.true_and,if_pos rfl]
     split
     ·rfl
     ·rw [List.length_cons];omega
   ·have hh:=decode_high (s.data.toList.length - pos) b.toNat (s.data.toList.getD (pos+1) 0).toNat (s.data.toList.getD (pos+2) 0).toNat (s.data.toList.getD (pos+3) 0).toNat h
    rw [← hdec] at hh
    have hi:invR (Utf8.decode s pos).1=true:=by unfold invR;simp;omega
    rw [if_pos hi]
    have hk:okb b=false:=by
     have:=invR_byte b
     have h2:invR b.toNat=true:=by unfold invR;simp;omega
     rw [h2] at this
     simpa using this
    rw [hk]
    simp
  ·rw [List.drop_eq_nil_of_le (by omega),idxFuncFrom_end _ _ _ _ _ hlt]
   rfl
theorem idx_all (s:ByteArray):idxFunc invR true s=if s.data.toList.all okb=true then -1 else (((s.data.toList.takeWhile okb).length:Nat):Int):=by
 have:=idx_is s s.size 0 (by omega) (by omega)
 rw [List.drop_zero,Nat.zero_add] at this
 exact this
theorem idx_good {s:ByteArray} (h:s.data.toList.all okb=true):idxFunc invR true s=-1:=by rw [idx_all,if_pos h]
theorem idx_bad {s:ByteArray} (h:s.data.toList.all okb=false):idxFunc invR true s=(((s.data.toList.takeWhile okb).length:Nat):Int):=by rw [idx_all,if_neg (by simp [h])]
end Go.TxtM
