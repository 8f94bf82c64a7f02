import Derived.Test.YtbhnbcadgmagpaaGreatDoorBig
import Derived.Test.YtbhnbcadgmagpaaGreatDoorJ1
import Derived.Test.YtbhnbcadgmagpaaGreatDoorJ19
import Derived.Test.YtbhnbcadgmagpaaGreatDoorJ5
import Derived.Test.YtbhnbcadgmagpaaGreatDoorJ3
import Derived.Test.YtbhnbcadgmagpaaGreatDoorJ20
set_option linter.unusedVariables false
set_option linter.unusedSimpArgs false
set_option maxRecDepth 100000
namespace Go.Proofs.YtbhnbcadgmagpaaGreatDoor
open Go.aN
namespace ov
open iC (add tot lG)
theorem nT(a b:Nat)(h:a % 256=b % 256):UInt8.ofNat a=UInt8.ofNat b:=by
 apply UInt8.toNat_inj.1;simp;exact h
theorem N_(v:Nat):qL.mg v 2=j7 v:=by
 simp[qL.mg,j7,List.range_succ]
theorem K2(v:Nat):qL.mg v 4=jz v:=by
 simp[qL.mg,jz,j7,List.range_succ];refine⟨nT _ _ zo,nT _ _ zo,nT _ _ zo⟩
end ov
namespace ov
open iC (add tot lG lay)
section
variable (id tt pr sr ds:Nat)(x y:List UInt8)
end
end ov
end Go.Proofs.YtbhnbcadgmagpaaGreatDoor
namespace Go.Proofs.YtbhnbcadgmagpaaGreatDoor
open Go.ChangeShapes Go.WideShapes Go.ChangeAt Go.RowKit Go.aN
namespace Ip
open ov (word four hs tl aU bS)
open iC (add cV)
theorem Row.set{w:World}{g:Nat}{l:List UInt8}(h:Row w g l)(j:Nat)(x:Int)(c:UInt8)(hx:x=(c.toNat:Int)):Row (w.setCell ⟨g,j,none⟩ (.int .u8 x)) g (l.set j c):=by
 subst hx;have:=heap_setCell_same w g j _ _ (.int .u8 (c.toNat:Int)) h;unfold Row;rw[this,← EC];simp
theorem Row.cell{w:World}{g:Nat}{l:List UInt8}(h:Row w g l)(j:Nat)(hj:j<l.length):w.cell? ⟨g,j,none⟩=some (.int .u8 (aJ l j:Int)):=by
 rw[cell_of_row w g j _ _ _ h,List.getElem?_toArray,oF l j hj]
structure Sv(W w:World)(B:Nat)(A:Option Addr)(n:Nat)(x:List UInt8)(g:Nat)(l:List UInt8)(pr sr ds sz ln tt id:Int):Prop where
 hd:Hd w W.heap.size pr sr ds sz ln tt id
 row:Row w g l
 lt:W.heap.size<g
 az:Below W.heap.size W w
 Ti:bI w B A n x
 hB:B<=W.heap.size
section
variable {W w w':World}{B:Nat}{A:Option Addr}{n:Nat}{x:List UInt8}{g:Nat}{l l':List UInt8}{pr sr ds sz ln tt id:Int}
theorem Sv.but(h:Sv W w B A n x g l pr sr ds sz ln tt id)(hr:Row w' g l')(hb:M6 g w w'):Sv W w' B A n x g l' pr sr ds sz ln tt id:=by
 have h1:=h.row.lt;have h2:=h.lt;have h3:=h.hB;refine⟨h.hd.keep (hb.block _ zo zt),hr,h.lt,h.az.grown hb h.az.size (by intro k hk;injection hk with hk;omega),h.Ti.keep λp hp=>World.cell?_of_block (hb.block p.block zo zt),h.hB⟩
theorem Sv.set(h:Sv W w B A n x g l pr sr ds sz ln tt id)(j:Nat)(v:Int)(c:UInt8)(hv:v=(c.toNat:Int)):Sv W (w.setCell ⟨g,j,none⟩ (.int .u8 v)) B A n x g (l.set j c) pr sr ds sz ln tt id :=
 h.but (h.row.set j v c hv) (vY w g j _)
end
end Ip
end Go.Proofs.YtbhnbcadgmagpaaGreatDoor
