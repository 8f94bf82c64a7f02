import Derived.Test.YtbhnbcadgmagpaaGreatDoorBig
import Derived.Test.YtbhnbcadgmagpaaGreatDoorJ1
import Derived.Test.YtbhnbcadgmagpaaGreatDoorJ24
import Derived.Test.YtbhnbcadgmagpaaGreatDoorJ21
import Derived.Test.YtbhnbcadgmagpaaGreatDoorJ3
set_option linter.unusedVariables false
set_option linter.unusedSimpArgs false
set_option maxRecDepth 100000
namespace Go.Proofs.YtbhnbcadgmagpaaGreatDoor
open Go.ChangeShapes Go.WideShapes Go.ChangeAt Go.RowKit Go.aN
namespace Ip
open ov (word four hs tl aU bS fD eF body)
theorem Bz(A:Option Addr)(n c:Nat)(bs:List UInt8)(B:Nat)(W:World)(hb:bI W B A n bs)(hB:B<=W.heap.size)(hc:n<=c)(hm:c<=9223372036854775807)(he:eF bs≠0) :
  Calls Tryz.prog 95 #[.slice A n c] W λe w'=>e = .returned (gU (eF bs))/\Below W.heap.size W w':=by
 have hl:=hb.len
 unfold eF at he ⊢
 by_cases h1:1500<bs.length
 ·rw[if_pos h1];exact Dv A n c bs B W hb hc hm zo
 ·rw[if_neg h1]at he ⊢;by_cases h2:bs.length<20
  ·rw[if_pos h2];exact mO A n c bs B W hb hc hm zo
  ·rw[if_neg h2]at he ⊢;exact fB A n c bs B W hb hB hc hm zo zo he
theorem eC(A:Option Addr)(n c:Nat)(bs:List UInt8)(B:Nat)(W:World)(hb:bI W B A n bs)(hB:B<=W.heap.size)(hc:n<=c)(hm:c<=9223372036854775807)(he:eF bs=0) :
  Calls Tryz.prog 95 #[.slice A n c] W (gP W bs):=by
 obtain⟨h1,h2,h3⟩:=ov.xH he
 rw[hb.len]at h1 h2
 exact xJ A n c bs B W hb hB hc hm h2 h1 h3
end Ip
namespace Ip
open ov (j7 jz)
open iC (add cV)
abbrev S7(W1 w:World)(G:Nat)(pr sr ds tt id:Int):Prop :=
 w.cell? ⟨G,0,none⟩=some (.int .u8 pr)/\w.cell? ⟨G,1,none⟩=some (.int .u32 sr)/\w.cell? ⟨G,2,none⟩=some (.int .u32 ds)/\w.cell? ⟨G,5,none⟩=some (.int .u8 tt)/\w.cell? ⟨G,6,none⟩=some (.int .u16 id)/\Hid (Below W1.heap.size W1 w)
section
variable {W1 w w':World}{G:Nat}{pr sr ds sz ln tt id:Int}
theorem S7.mk(hx:Hid (Hd W1 G pr sr ds sz ln tt id))(hb:Below W1.heap.size W1 w):S7 W1 w G pr sr ds tt id:=by
 obtain⟨h0,h1,h2,_,_,h5,h6⟩:=(hx.out.next hb).cells;exact⟨h0,h1,h2,h5,h6,hb⟩
theorem S7.az(h:S7 W1 w G pr sr ds tt id):Below W1.heap.size W1 w:=h.2.2.2.2.2.out
theorem S7.next(hx:Hid (Hd W1 G pr sr ds sz ln tt id))(h:S7 W1 w G pr sr ds tt id)(hb:Below w.heap.size w w'):S7 W1 w' G pr sr ds tt id:=S7.mk hx (h.az.trans (hb.mono h.az.size))
theorem S7.alloc(hx:Hid (Hd W1 G pr sr ds sz ln tt id))(h:S7 W1 w G pr sr ds tt id)(o:Obj):S7 W1 (w.alloc o) G pr sr ds tt id:=S7.mk hx (h.az.alloc h.az.size o)
theorem S7.grown(hx:Hid (Hd W1 G pr sr ds sz ln tt id))(h:S7 W1 w G pr sr ds tt id){v:Value}{base n:Nat}{xs:List Value}(ho:w.ownsRow base 5 1 v n xs)(hB:W1.heap.size<=base)(hg:w.grownBy w' v.ownBlock):S7 W1 w' G pr sr ds tt id :=
 S7.mk hx (h.az.grown hg h.az.size λk hk=>Nat.le_trans hB (ho.lt k hk).1)
end
theorem Row.keep{w w':World}{g:Nat}{bs:List UInt8}(h:Row w g bs)(hk:w'.heap[g]? = w.heap[g]?):Row w' g bs:=hk.trans h
end Ip
end Go.Proofs.YtbhnbcadgmagpaaGreatDoor
