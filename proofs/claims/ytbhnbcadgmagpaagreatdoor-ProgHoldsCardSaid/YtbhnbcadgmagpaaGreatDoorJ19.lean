import Derived.Test.YtbhnbcadgmagpaaGreatDoorBig
import Derived.Test.YtbhnbcadgmagpaaGreatDoorJ18
set_option linter.unusedVariables false
set_option linter.unusedSimpArgs false
namespace Go.Proofs.YtbhnbcadgmagpaaGreatDoor
open Go.aN
namespace ov
open iC (add tot lG)
def word(bs:List UInt8)(i:Nat):Nat:=aJ bs i*256+aJ bs (i+1)
def four(bs:List UInt8)(i:Nat):Nat:=word bs i*65536+word bs (i+2)
theorem aU(bs:List UInt8)(i:Nat):word bs i<65536:=by have:=dB bs i;have:=dB bs (i+1);unfold word;omega
theorem bS(bs:List UInt8)(i:Nat):four bs i<4294967296:=by have:=aU bs i;have:=aU bs (i+2);unfold four;omega
def hs(bs:List UInt8):Nat:=aJ bs 0 % 16*4
def tl(bs:List UInt8):Nat:=word bs 2
theorem K0(bs:List UInt8):hs bs<=60:=by unfold hs;omega
theorem mL(bs:List UInt8):tl bs<65536:=aU _ _
def fD(bs:List UInt8):Nat :=
 if aJ bs 0 / 16≠4 then 5 else if hs bs<20 then 6 else if bs.length<hs bs\/tl bs<hs bs\/bs.length<tl bs then 4
 else if add 0 (bs.take (hs bs))≠65535 then 7 else if word bs 6 % 16384≠0 then 8 else 0
def eF(bs:List UInt8):Nat:=if 1500<bs.length then 2 else if bs.length<20 then 4 else fD bs
def body(bs:List UInt8):List UInt8:=(bs.drop (hs bs)).take (tl bs - hs bs)
theorem rG{bs:List UInt8}(h:fD bs=0):aJ bs 0 / 16=4/\20<=hs bs/\hs bs<=bs.length/\hs bs<=tl bs/\tl bs<=bs.length/\add 0 (bs.take (hs bs))=65535/\word bs 6 % 16384=0:=by
 unfold fD at h;split at h
 ·cases h
 split at h
 ·cases h
 split at h
 ·cases h
 split at h
 ·cases h
 split at h
 ·cases h
 refine⟨?_,?_,?_,?_,?_,?_,?_⟩ <;> first | omega | simp_all
theorem xH{bs:List UInt8}(h:eF bs=0):bs.length<=1500/\20<=bs.length/\fD bs=0:=by
 unfold eF at h;split at h
 ·cases h
 split at h
 ·cases h
 exact⟨by omega,by omega,h⟩
theorem K1{bs:List UInt8}(h:fD bs=0):(body bs).length=tl bs - hs bs:=by
 obtain⟨_,_,h3,h4,h5,_⟩:=rG h;simp[body];omega
def j7(n:Nat):List UInt8:=[UInt8.ofNat (n / 256),UInt8.ofNat n]
def jz(n:Nat):List UInt8:=j7 (n / 65536)++j7 (n % 65536)
end ov
end Go.Proofs.YtbhnbcadgmagpaaGreatDoor
