/- Several texts of this proof in one file, each in its own namespace. -/
import Derived.Test.YtcockldefmmhbaaGreatDoorJ41
import Derived.Test.YtcockldefmmhbaaGreatDoorRows
import Derived.Lib.LaidTab
import Derived.MakeChecks
import Derived.Test.YtcockldefmmhbaaGreatDoorJ43
import Derived.Test.YtcockldefmmhbaaGreatDoorJ36
import Derived.LaidMore
import Derived.Stop.LaidErr
import Derived.Lay
import Derived.Test.YtcockldefmmhbaaGreatDoorJ38
set_option linter.unusedVariables false
namespace Go.Proofs.YtcockldefmmhbaaGreatDoor
open Go.ChangeShapes Go.WideShapes Go.ChangeAt Go.RowKit Go.Mtl Go.Lib
namespace Tc
theorem tCon:(Tryz.prog.globals[1]?).map (·.type)=some 296:=by kernel_rfl
theorem cellsPat:Tryz.prog.cellsOf 295=2:=by kernel_rfl
theorem cellsByte:Tryz.prog.cellsOf 5=1:=by kernel_rfl
theorem pat_cells {w:World} {fuel:Nat} {cs:List Value} {a b:Int} {p:List MemPlace}
  (h:DataW.trod (fun _=>()) Tryz.prog w 0 (fun _=>true) false fuel 295 cs=some (.agg [.lit (.int .u8 a),.lit (.int .u8 b)],p)):cs[0]? = some (.int .u8 a)/\cs[1]? = some (.int .u8 b):=by
 obtain ⟨xs,n,_,hx,hl,_,hall⟩:=DataW.trod_struct Tryz.underlying295 h
 have hxs:xs.map (·.1)=[.lit (.int .u8 a),.lit (.int .u8 b)]:=by
  have:=congrArg Prod.fst hx
  simpa using this.symm
 match xs,hxs with
 | [x0,x1],hxs =>
  simp only [List.map_cons,List.map_nil,List.cons.injEq,and_true] at hxs
  have h0:DataW.trod (fun _=>()) Tryz.prog w 0 (fun _=>true) false n 5 ((cs.drop 0).take (Tryz.prog.cellsOf 5))=some x0:=hall 0 _ rfl
  have h1:DataW.trod (fun _=>()) Tryz.prog w 0 (fun _=>true) false n 5 ((cs.drop 1).take (Tryz.prog.cellsOf 5))=some x1:=hall 1 _ rfl
  rw [cellsByte] at h0 h1
  obtain ⟨z0,e0,f0,_⟩:=DataW.trod_int Tryz.underlying5 h0
  obtain ⟨z1,e1,f1,_⟩:=DataW.trod_int Tryz.underlying5 h1
  subst f0;subst f1
  simp only [DataW.lit.injEq,Lit.int.injEq,true_and] at hxs
  obtain ⟨rfl,rfl⟩:=hxs
  have e0:=congrArg (·[0]?) e0
  have e1:=congrArg (·[0]?) e1
  simp only [List.getElem?_take,List.getElem?_drop] at e0 e1
  exact ⟨by simpa using e0,by simpa using e1⟩
theorem env_of {W:World} (hL:laidMetH Tryz.prog [("mantlet/tcp.consistent",Rows.laid_mantlet_tcp_consistent)] W):Env W:=by
 rw [MakeChecks.laidMetH_plain _ _ _ (by kernel_rfl)] at hL
 obtain ⟨ps,⟨g,t,cs,fuel,p,q,hg,hty,hvar,hd,_,_⟩,_,_⟩:=hL
 obtain rfl:=Option.some.inj (gCon.symm.trans hg)
 obtain rfl:=Option.some.inj (tCon.symm.trans hty)
 cases fuel with
 | zero=>simp [DataW.trod] at hd
 | succ fuel =>
  unfold Rows.laid_mantlet_tcp_consistent at hd
  simp only [DataW.trod,Tryz.underlying296,cellsPat] at hd
  split at hd
  ·rename_i hlen
   obtain ⟨xs,hm,hx⟩:=Option.map_eq_some_iff.1 hd
   have hxs:xs.map (·.1)=[.agg [.lit (.int .u8 7),.lit (.int .u8 2)],.agg [.lit (.int .u8 7),.lit (.int .u8 4)],.agg [.lit (.int .u8 22),.lit (.int .u8 16)]]:=by
    have:=congrArg Prod.fst hx
    simpa using this
   match xs,hxs with
   | [(d0,q0),(d1,q1),(d2,q2)],hxs =>
    simp only [List.map_cons,List.map_nil,List.cons.injEq,and_true] at hxs
    obtain ⟨rfl,rfl,rfl⟩:=hxs
    obtain ⟨b0,hb0,hf0⟩:=mapM_at hm 0 0 (by simp)
    obtain ⟨b1,hb1,hf1⟩:=mapM_at hm 1 1 (by simp)
    obtain ⟨b2,hb2,hf2⟩:=mapM_at hm 2 2 (by simp)
    simp at hb0 hb1 hb2
    subst hb0;subst hb1;subst hb2
    obtain ⟨x0,x1⟩:=pat_cells hf0
    obtain ⟨x2,x3⟩:=pat_cells hf1
    obtain ⟨x4,x5⟩:=pat_cells hf2
    simp only [List.getElem?_take,List.getElem?_drop] at x0 x1 x2 x3 x4 x5
    have c:∀ i v,cs.toList[i]? = some v->W.cell? ⟨1,i,none⟩=some v:=fun i v h=>by
     rw [World.var?_cell gCon hvar i,← Array.getElem?_toList];exact h
    exact ⟨c 0 _ (by simpa using x0),c 1 _ (by simpa using x1),c 2 _ (by simpa using x2),c 3 _ (by simpa using x3),c 4 _ (by simpa using x4),c 5 _ (by simpa using x5)⟩
  ·cases hd
end Tc
end Go.Proofs.YtcockldefmmhbaaGreatDoor
set_option linter.unusedVariables false
namespace Go.Proofs.YtcockldefmmhbaaGreatDoor
open Go.ChangeShapes Go.WideShapes Go.ChangeAt Go.RowKit Go.Mtl Go.Shelf Go.Lib
namespace Au
theorem tTab:(Tryz.prog.globals[10]?).map (·.type)=some 375:=by kernel_rfl
theorem laid_head {P:Program} {x:String × DataW Unit} {r:List (String × DataW Unit)} {w:World} (h:laidMet P (x :: r) w):laidMet P [x] w:=by
 obtain ⟨ps,hv,hnd,hrows⟩:=h
 obtain ⟨n,d⟩:=x
 obtain ⟨g,t,cs,fuel,p,q,h1,h2,h3,h4,hq,rfl⟩:=hv
 refine ⟨_,⟨g,t,cs,fuel,p,[],h1,h2,h3,h4,rfl,rfl⟩,?_,fun b off hm=>hrows b off (List.mem_append_left _ ?_)⟩
 ·rw [List.append_nil];exact List.Nodup.sublist (List.sublist_append_left _ _) hnd
 ·rw [List.append_nil] at hm;exact hm
abbrev laid18:List (String × DataW Unit):=[("mantlet/flow.parts",Rows.laid_mantlet_flow_parts),("mantlet/gate.parts",Rows.laid_mantlet_gate_parts),("math/bits.deBruijn32tab",Rows.laid_math_bits_deBruijn32tab),("math/bits.deBruijn64tab",Rows.laid_math_bits_deBruijn64tab),("internal/strconv.uint64pow10",Rows.laid_internal_strconv_uint64pow10)]
set_option maxRecDepth 100000 in
theorem env_of {W:World} (hL:laidMetH Tryz.prog laid18 W):Env W:=by
 rw [MakeChecks.laidMetH_plain _ _ _ (by kernel_rfl)] at hL
 have h1:laidMet Tryz.prog (("mantlet/flow.parts",Rows.laid_mantlet_flow_parts) :: _) W:=hL
 have h2:=h1.tail
 have h5:=h2.tail.tail.tail
 have hT:=tabIs_of_head (zs:=pow10Tab) Ah.gTab tTab Tryz.underlying375 Tryz.underlying56 (by kernel_rfl) (by kernel_rfl) h5
 exact ⟨Ga.env_of (by rw [MakeChecks.laidMetH_plain _ _ _ (by kernel_rfl)];exact laid_head h2),Fl.env_of (by rw [MakeChecks.laidMetH_plain _ _ _ (by kernel_rfl)];exact laid_head h1),⟨hT⟩⟩
end Au
end Go.Proofs.YtcockldefmmhbaaGreatDoor
set_option linter.unusedVariables false
namespace Go.Proofs.YtcockldefmmhbaaGreatDoor
open Go.ChangeShapes Go.WideShapes Go.ChangeAt Go.RowKit Go.Mtl Go.Shelf Go.Lib
namespace Ru
theorem tSyn:(Tryz.prog.globals[8]?).map (·.type)=some 309:=by kernel_rfl
theorem tRng:(Tryz.prog.globals[9]?).map (·.type)=some 309:=by kernel_rfl
theorem tTab:(Tryz.prog.globals[10]?).map (·.type)=some 375:=by kernel_rfl
theorem tSp:(Tryz.prog.globals[4]?).map (·.type)=some 306:=by kernel_rfl
theorem star : "*" ++ "errors.errorString" = "*errors.errorString":=by decide
theorem rowErr (u:TypeId) (h:Tryz.prog.typeName? 3 u=some "*errors.errorString"):u=378 :=
 typeName_ptr_named (nm:= "errors.errorString") (by rw [star];kernel_rfl) (by kernel_rfl) (by decide) u (by rw [star];exact h)
theorem sp_is:(Rows.laid_strings_asciiSpace:DataW Unit)=tabData .u8 asciiSpaceTab:=by kernel_rfl
abbrev laid12:List (String × DataW Unit):=[("math/bits.deBruijn32tab",Rows.laid_math_bits_deBruijn32tab),("math/bits.deBruijn64tab",Rows.laid_math_bits_deBruijn64tab),("internal/strconv.uint64pow10",Rows.laid_internal_strconv_uint64pow10),("unicode/utf8.acceptRanges",Rows.laid_unicode_utf8_acceptRanges),("strconv.ErrRange",Rows.laid_strconv_ErrRange),("strconv.ErrSyntax",Rows.laid_strconv_ErrSyntax),("unicode.White_Space",Rows.laid_unicode_White_Space),("strings.asciiSpace",Rows.laid_strings_asciiSpace),("unicode/utf8.first",Rows.laid_unicode_utf8_first)]
set_option maxRecDepth 100000 in
theorem env_of {W:World} (hL:laidMetH Tryz.prog laid12 W) (hsh:W.ShapedOpen Tryz.prog):Env W:=by
 rw [MakeChecks.laidMetH_plain _ _ _ (by kernel_rfl)] at hL
 have h1:laidMet Tryz.prog (("math/bits.deBruijn32tab",Rows.laid_math_bits_deBruijn32tab) :: _) W:=hL
 have h3:=h1.tail.tail
 have h5:=h3.tail.tail
 have h6:=h5.tail
 have h8:laidMet Tryz.prog (("strings.asciiSpace",tabData .u8 asciiSpaceTab) :: _) W:=sp_is ▸ h6.tail.tail
 have hT:=tabIs_of_head (zs:=pow10Tab) Ad.gTab tTab Tryz.underlying375 Tryz.underlying56 (by kernel_rfl) (by kernel_rfl) h3
 obtain ⟨a0,s0,hv0,-,-,-⟩:=laid_sentinel h5 Ad.gRng tRng Tryz.underlying309 rowErr Tryz.underlying378 Tryz.underlying380 rfl rfl Tryz.underlying9 (by kernel_rfl) (by kernel_rfl)
 obtain ⟨a1,s1,hv1,-,-,-⟩:=laid_sentinel h6 Ad.gSyn tSyn Tryz.underlying309 rowErr Tryz.underlying378 Tryz.underlying380 rfl rfl Tryz.underlying9 (by kernel_rfl) (by kernel_rfl)
 have hS:=tabIs_of_head (zs:=asciiSpaceTab) Tx.gSp tSp Tryz.underlying306 Tryz.underlying5 (by kernel_rfl) (by kernel_rfl) h8
 exact ⟨⟨Tryz.laysM146.s1_3 W hsh,⟨_,_,hv1⟩,⟨_,_,hv0⟩,hT⟩,⟨Tryz.laysM146.s1_3 W hsh,hS⟩⟩
end Ru
end Go.Proofs.YtcockldefmmhbaaGreatDoor
