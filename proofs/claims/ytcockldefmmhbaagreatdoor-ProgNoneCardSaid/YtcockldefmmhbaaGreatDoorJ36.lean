/- Several texts of this proof in one file, each in its own namespace. -/
import Derived.Test.YtcockldefmmhbaaGreatDoorJ31
import Derived.Test.YtcockldefmmhbaaGreatDoorRows
import Derived.Lib.LaidTab
import Derived.MakeChecks
set_option linter.unusedVariables false
namespace Go.Proofs.YtcockldefmmhbaaGreatDoor
open Go.ChangeShapes Go.WideShapes Go.ChangeAt Go.RowKit Go.Mtl Go.Lib
namespace Ga
theorem tParts:(Tryz.prog.globals[0]?).map (·.type)=some 192:=by kernel_rfl
theorem cellsPart:Tryz.prog.cellsOf 191=3:=by kernel_rfl
theorem cellsInt:Tryz.prog.cellsOf 3=1:=by kernel_rfl
theorem part_cells {w:World} {fuel:Nat} {cs:List Value} {a b c:Int} {p:List MemPlace}
  (h:DataW.trod (fun _=>()) Tryz.prog w 0 (fun _=>true) false fuel 191 cs=some (.agg [.lit (.int .i64 a),.lit (.int .i64 b),.lit (.int .i64 c)],p)):cs[0]? = some (.int .i64 a)/\cs[1]? = some (.int .i64 b)/\cs[2]? = some (.int .i64 c):=by
 obtain ⟨xs,n,_,hx,hl,_,hall⟩:=DataW.trod_struct Tryz.underlying191 h
 have hxs:xs.map (·.1)=[.lit (.int .i64 a),.lit (.int .i64 b),.lit (.int .i64 c)]:=by
  have:=congrArg Prod.fst hx
  simpa using this.symm
 match xs,hxs with
 | [x0,x1,x2],hxs =>
  simp only [List.map_cons,List.map_nil,List.cons.injEq,and_true] at hxs
  have h0:DataW.trod (fun _=>()) Tryz.prog w 0 (fun _=>true) false n 3 ((cs.drop 0).take (Tryz.prog.cellsOf 3))=some x0:=hall 0 _ rfl
  have h1:DataW.trod (fun _=>()) Tryz.prog w 0 (fun _=>true) false n 3 ((cs.drop 1).take (Tryz.prog.cellsOf 3))=some x1:=hall 1 _ rfl
  have h2:DataW.trod (fun _=>()) Tryz.prog w 0 (fun _=>true) false n 3 ((cs.drop 2).take (Tryz.prog.cellsOf 3))=some x2:=hall 2 _ rfl
  rw [cellsInt] at h0 h1 h2
  obtain ⟨z0,e0,f0,_⟩:=DataW.trod_int Tryz.underlying3 h0
  obtain ⟨z1,e1,f1,_⟩:=DataW.trod_int Tryz.underlying3 h1
  obtain ⟨z2,e2,f2,_⟩:=DataW.trod_int Tryz.underlying3 h2
  subst f0;subst f1;subst f2
  simp only [DataW.lit.injEq,Lit.int.injEq,true_and] at hxs
  obtain ⟨rfl,rfl,rfl⟩:=hxs
  have e0:=congrArg (·[0]?) e0
  have e1:=congrArg (·[0]?) e1
  have e2:=congrArg (·[0]?) e2
  simp only [List.getElem?_take,List.getElem?_drop] at e0 e1 e2
  exact ⟨by simpa using e0,by simpa using e1,by simpa using e2⟩
theorem env_of {W:World} (hL:laidMetH Tryz.prog [("mantlet/gate.parts",Rows.laid_mantlet_gate_parts)] W):Env W:=by
 rw [MakeChecks.laidMetH_plain _ _ _ (by kernel_rfl)] at hL
 obtain ⟨ps,⟨g,t,cs,fuel,p,q,hg,hty,hvar,hd,_,_⟩,_,_⟩:=hL
 obtain rfl:=Option.some.inj (gParts.symm.trans hg)
 obtain rfl:=Option.some.inj (tParts.symm.trans hty)
 cases fuel with
 | zero=>simp [DataW.trod] at hd
 | succ fuel =>
  unfold Rows.laid_mantlet_gate_parts at hd
  simp only [DataW.trod,Tryz.underlying192,cellsPart] at hd
  split at hd
  ·rename_i hlen
   obtain ⟨xs,hm,hx⟩:=Option.map_eq_some_iff.1 hd
   have hxs:xs.map (·.1)=[.agg [.lit (.int .i64 0),.lit (.int .i64 40),.lit (.int .i64 1099511627775)],.agg [.lit (.int .i64 40),.lit (.int .i64 12),.lit (.int .i64 4095)],.agg [.lit (.int .i64 52),.lit (.int .i64 12),.lit (.int .i64 4095)]]:=by
    have:=congrArg Prod.fst hx
    simpa using this
   match xs,hxs with
   | [(d0,q0),(d1,q1),(d2,q2)],hxs =>
    simp only [List.map_cons,List.map_nil,List.cons.injEq,and_true] at hxs
    obtain ⟨rfl,rfl,rfl⟩:=hxs
    obtain ⟨b0,hb0,hf0⟩:=mapM_at hm 0 0 (by simp)
    obtain ⟨b1,hb1,hf1⟩:=mapM_at hm 1 1 (by simp)
    obtain ⟨b2,hb2,hf2⟩:=mapM_at hm 2 2 (by simp)
    simp at hb0 hb1 hb2
    subst hb0;subst hb1;subst hb2
    obtain ⟨x0,x1,x2⟩:=part_cells hf0
    obtain ⟨x3,x4,x5⟩:=part_cells hf1
    obtain ⟨x6,x7,x8⟩:=part_cells hf2
    simp only [List.getElem?_take,List.getElem?_drop] at x0 x1 x2 x3 x4 x5 x6 x7 x8
    have c:∀ i v,cs.toList[i]? = some v->W.cell? ⟨0,i,none⟩=some v:=fun i v h=>by
     rw [World.var?_cell gParts hvar i,← Array.getElem?_toList];exact h
    exact ⟨c 0 _ (by simpa using x0),c 1 _ (by simpa using x1),c 2 _ (by simpa using x2),c 3 _ (by simpa using x3),c 4 _ (by simpa using x4),c 5 _ (by simpa using x5),c 6 _ (by simpa using x6),c 7 _ (by simpa using x7),c 8 _ (by simpa using x8)⟩
  ·cases hd
end Ga
end Go.Proofs.YtcockldefmmhbaaGreatDoor
set_option linter.unusedVariables false
namespace Go.Proofs.YtcockldefmmhbaaGreatDoor
open Go.ChangeShapes Go.WideShapes Go.ChangeAt Go.RowKit Go.Mtl Go.Lib
namespace Fl
theorem tParts:(Tryz.prog.globals[2]?).map (·.type)=some 302:=by kernel_rfl
theorem cellsPart:Tryz.prog.cellsOf 301=3:=by kernel_rfl
theorem cellsInt:Tryz.prog.cellsOf 3=1:=by kernel_rfl
theorem part_cells {w:World} {fuel:Nat} {cs:List Value} {a b c:Int} {p:List MemPlace}
  (h:DataW.trod (fun _=>()) Tryz.prog w 0 (fun _=>true) false fuel 301 cs=some (.agg [.lit (.int .i64 a),.lit (.int .i64 b),.lit (.int .i64 c)],p)):cs[0]? = some (.int .i64 a)/\cs[1]? = some (.int .i64 b)/\cs[2]? = some (.int .i64 c):=by
 obtain ⟨xs,n,_,hx,hl,_,hall⟩:=DataW.trod_struct Tryz.underlying301 h
 have hxs:xs.map (·.1)=[.lit (.int .i64 a),.lit (.int .i64 b),.lit (.int .i64 c)]:=by
  have:=congrArg Prod.fst hx
  simpa using this.symm
 match xs,hxs with
 | [x0,x1,x2],hxs =>
  simp only [List.map_cons,List.map_nil,List.cons.injEq,and_true] at hxs
  have h0:DataW.trod (fun _=>()) Tryz.prog w 0 (fun _=>true) false n 3 ((cs.drop 0).take (Tryz.prog.cellsOf 3))=some x0:=hall 0 _ rfl
  have h1:DataW.trod (fun _=>()) Tryz.prog w 0 (fun _=>true) false n 3 ((cs.drop 1).take (Tryz.prog.cellsOf 3))=some x1:=hall 1 _ rfl
  have h2:DataW.trod (fun _=>()) Tryz.prog w 0 (fun _=>true) false n 3 ((cs.drop 2).take (Tryz.prog.cellsOf 3))=some x2:=hall 2 _ rfl
  rw [cellsInt] at h0 h1 h2
  obtain ⟨z0,e0,f0,_⟩:=DataW.trod_int Tryz.underlying3 h0
  obtain ⟨z1,e1,f1,_⟩:=DataW.trod_int Tryz.underlying3 h1
  obtain ⟨z2,e2,f2,_⟩:=DataW.trod_int Tryz.underlying3 h2
  subst f0;subst f1;subst f2
  simp only [DataW.lit.injEq,Lit.int.injEq,true_and] at hxs
  obtain ⟨rfl,rfl,rfl⟩:=hxs
  have e0:=congrArg (·[0]?) e0
  have e1:=congrArg (·[0]?) e1
  have e2:=congrArg (·[0]?) e2
  simp only [List.getElem?_take,List.getElem?_drop] at e0 e1 e2
  exact ⟨by simpa using e0,by simpa using e1,by simpa using e2⟩
theorem env_of {W:World} (hL:laidMetH Tryz.prog [("mantlet/flow.parts",Rows.laid_mantlet_flow_parts)] W):Env W:=by
 rw [MakeChecks.laidMetH_plain _ _ _ (by kernel_rfl)] at hL
 obtain ⟨ps,⟨g,t,cs,fuel,p,q,hg,hty,hvar,hd,_,_⟩,_,_⟩:=hL
 obtain rfl:=Option.some.inj (gParts.symm.trans hg)
 obtain rfl:=Option.some.inj (tParts.symm.trans hty)
 cases fuel with
 | zero=>simp [DataW.trod] at hd
 | succ fuel =>
  unfold Rows.laid_mantlet_flow_parts at hd
  simp only [DataW.trod,Tryz.underlying302,cellsPart] at hd
  split at hd
  ·rename_i hlen
   obtain ⟨xs,hm,hx⟩:=Option.map_eq_some_iff.1 hd
   have hxs:xs.map (·.1)=[.agg [.lit (.int .i64 0),.lit (.int .i64 40),.lit (.int .i64 1099511627775)],.agg [.lit (.int .i64 40),.lit (.int .i64 20),.lit (.int .i64 1048575)],.agg [.lit (.int .i64 60),.lit (.int .i64 4),.lit (.int .i64 15)]]:=by
    have:=congrArg Prod.fst hx
    simpa using this
   match xs,hxs with
   | [(d0,q0),(d1,q1),(d2,q2)],hxs =>
    simp only [List.map_cons,List.map_nil,List.cons.injEq,and_true] at hxs
    obtain ⟨rfl,rfl,rfl⟩:=hxs
    obtain ⟨b0,hb0,hf0⟩:=mapM_at hm 0 0 (by simp)
    obtain ⟨b1,hb1,hf1⟩:=mapM_at hm 1 1 (by simp)
    obtain ⟨b2,hb2,hf2⟩:=mapM_at hm 2 2 (by simp)
    simp at hb0 hb1 hb2
    subst hb0;subst hb1;subst hb2
    obtain ⟨x0,x1,x2⟩:=part_cells hf0
    obtain ⟨x3,x4,x5⟩:=part_cells hf1
    obtain ⟨x6,x7,x8⟩:=part_cells hf2
    simp only [List.getElem?_take,List.getElem?_drop] at x0 x1 x2 x3 x4 x5 x6 x7 x8
    have c:∀ i v,cs.toList[i]? = some v->W.cell? ⟨2,i,none⟩=some v:=fun i v h=>by
     rw [World.var?_cell gParts hvar i,← Array.getElem?_toList];exact h
    exact ⟨c 0 _ (by simpa using x0),c 1 _ (by simpa using x1),c 2 _ (by simpa using x2),c 3 _ (by simpa using x3),c 4 _ (by simpa using x4),c 5 _ (by simpa using x5),c 6 _ (by simpa using x6),c 7 _ (by simpa using x7),c 8 _ (by simpa using x8)⟩
  ·cases hd
end Fl
end Go.Proofs.YtcockldefmmhbaaGreatDoor
