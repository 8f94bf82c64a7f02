import Derived.Test.YtbhnbcadgmagpaaGreatDoorBih
import Derived.Test.YtbhnbcadgmagpaaGreatDoorJ1
import Derived.Test.YtbhnbcadgmagpaaGreatDoorJ3
import Derived.Test.YtbhnbcadgmagpaaGreatDoorProg
import Derived.Test.YtbhnbcadgmagpaaGreatDoorJ10
import Derived.Test.YtbhnbcadgmagpaaGreatDoorJ4
import Derived.Test.YtbhnbcadgmagpaaGreatDoorJ28
set_option linter.unusedVariables false
set_option linter.unusedSimpArgs false
set_option maxHeartbeats 16000000
set_option maxRecDepth 100000
namespace Go.aN
open Go Go.RowKit
structure iG(b:Nat)(w w':World):Prop where
 os:w'.os=w.os
 tape:w'.tape=w.tape
 output:w'.output=w.output
 size:w.heap.size<=w'.heap.size
 block:∀j,j<w.heap.size->j≠b->w'.heap[j]? = w.heap[j]?
section
variable {b:Nat}{w w1 w2:World}
theorem iG.refl(b:Nat)(w:World):iG b w w:=⟨rfl,rfl,rfl,Nat.le_refl _,λ_ _ _=>rfl⟩
theorem iG.aS(h:Below w.heap.size w w1):iG b w w1:=⟨h.os,h.tape,h.output,h.size,λk hk _=>h.block k hk⟩
theorem iG.trans(h:iG b w w1)(k:iG b w1 w2):iG b w w2 :=
 ⟨k.os.trans h.os,k.tape.trans h.tape,k.output.trans h.output,Nat.le_trans h.size k.size,λj hj hn=>(k.block j (Nat.lt_of_lt_of_le hj h.size) hn).trans (h.block j hj hn)⟩
theorem iG.next(h:iG b w w1)(k:Below w1.heap.size w1 w2):iG b w w2:=h.trans (iG.aS k)
theorem iG.heap(h:iG b w w1){j:Nat}{o:Obj}(hj:w.heap[j]? = some o)(hn:j≠b):w1.heap[j]? = some o:=(h.block j (Array.getElem?_eq_some_iff.1 hj).1 hn).trans hj
end
structure VA(P:Program){α:Type}[Inhabited α](A:World->Array α->Prop)(b m n:Nat)(lt:α->α->Bool)(g:Nat)(lb:Array Value)(sf:Nat)(sb:Array Value):Prop where
 small:n<4611686018427387904
 size:∀{W d},A W d->d.size=n
 bm:b<m
 at_:∀{W d},A W d->m<=W.heap.size
 keep:∀{W d W'},A W d->(∀j,j<m->W'.heap[j]? = W.heap[j]?)->W.heap.size<=W'.heap.size->A W' d
 enters:∀args w,(callFunc g args).run P w = .ok (.enter g args) w
 less:∀{W d} (i j:Nat),A W d->i<n->j<n->Calls P g (#[.int .i64 i,.int .i64 j]++lb) W λe w'=>e = .returned (.bool (lt d[i]! d[j]!))/\Below W.heap.size W w'
 swap:∀{W d} (i j:Nat),A W d->i<n->j<n->∃W',(callFunc sf (#[.int .i64 i,.int .i64 j]++sb)).run P W = .ok (.value (.tuple #[])) W'/\A W' (Sort.swp d i j)/\iG b W W'
structure bl{α:Type}[Inhabited α](A:World->Array α->Prop)(b:Nat)(lb sb:Array Value)(g sf:Nat)(t:TypeId)(We:World)(x:Nat)(W:World)(d:Array α):Prop where
 row:A W d
 box:W.heap[x]? = some (.cells #[.func (.func g) #[] lb,.func (.func sf) #[] sb] t (0,0))
 ne:x≠b
 bar:iG b We W
section
variable {P:Program}{α:Type}[Inhabited α]{A:World->Array α->Prop}{b m n:Nat}{lt:α->α->Bool}{g:Nat}{lb:Array Value}{sf:Nat}{sb:Array Value}{t:TypeId}{We W W':World}{x:Nat}{d:Array α}
theorem VA.next(K:VA P A b m n lt g lb sf sb)(h:A W d)(hb:Below W.heap.size W W'):A W' d:=K.keep h (λj hj=>hb.block j (Nat.lt_of_lt_of_le hj (K.at_ h))) hb.size
theorem VA.other(K:VA P A b m n lt g lb sf sb)(h:A W d){p:Nat}(hp:m<=p)(hb:iG p W W'):A W' d :=
 K.keep h (λj hj=>hb.block j (Nat.lt_of_lt_of_le hj (K.at_ h)) zo) hb.size
theorem bl.start(K:VA P A b m n lt g lb sf sb)(h:A W d)(t:TypeId):bl A b lb sb g sf t W W.heap.size (W.alloc (.cells #[.func (.func g) #[] lb,.func (.func sf) #[] sb] t)) d :=
 ⟨K.next h ((Below.refl _ W).alloc zl _),heap_alloc_new W _,by have:=K.at_ h;have:=K.bm;omega,iG.aS ((Below.refl _ W).alloc zl _)⟩
theorem bl.next(H:bl A b lb sb g sf t We x W d)(K:VA P A b m n lt g lb sf sb)(hb:Below W.heap.size W W'):bl A b lb sb g sf t We x W' d :=
 ⟨K.next H.row hb,(hb.block _ (Array.getElem?_eq_some_iff.1 H.box).1).trans H.box,H.ne,H.bar.next hb⟩
theorem bl.turn(H:bl A b lb sb g sf t We x W d){d':Array α}(ha:A W' d')(hb:iG b W W'):bl A b lb sb g sf t We x W' d' :=
 ⟨ha,hb.heap H.box H.ne,H.ne,H.bar.trans hb⟩
theorem Pe{W:World}{p:Nat}{v:Value}{t:TypeId}(v':Value)(h:W.heap[p]? = some (.cells #[v] t (0,0))):(W.setCell ⟨p,0,none⟩ v').heap[p]? = some (.cells #[v'] t (0,0)):=by
 obtain⟨hlt,hk⟩:=Array.getElem?_eq_some_iff.1 h;show(W.heap.modify p _)[p]? = _;rw[Array.getElem?_eq_getElem (by rw[Array.size_modify];exact hlt),Array.getElem_modify_self,hk];rfl
theorem qD{W:World}{p:Nat}{v:Value}{t:TypeId}(h:W.heap[p]? = some (.cells #[v] t (0,0))):W.cell? ⟨p,0,none⟩=some v/\W.frozen? ⟨p,0,none⟩=false:=by
 constructor <;> simp[World.cell?,World.frozen?,h]
theorem iG.set(W:World)(p:Nat)(v:Value):iG p W (W.setCell ⟨p,0,none⟩ v):=⟨rfl,rfl,rfl,by simp[World.setCell],λj _ hn=>Below.heap_setCell _ _ _ _ hn⟩
theorem bl.c0(H:bl A b lb sb g sf t We x W d):W.cell? ⟨x,0,none⟩=some (.func (.func g) #[] lb):=by simp[World.cell?,H.box]
theorem bl.c1(H:bl A b lb sb g sf t We x W d):W.cell? ⟨x,1,none⟩=some (.func (.func sf) #[] sb):=by simp[World.cell?,H.box]
end
end Go.aN
namespace Go.Proofs.YtbhnbcadgmagpaaGreatDoor
open Go.ChangeShapes Go.WideShapes Go.ChangeAt Go.RowKit Go.aN Go.Lib
namespace So
open Go.Sort
section
variable {α:Type}[Inhabited α]{A:World->Array α->Prop}{b m n:Nat}{lt:α->α->Bool}{g:Nat}{lb:Array Value}{sf:Nat}{sb:Array Value}{W:World}{d:Array α}
theorem wJ(K:VA Tryz.prog A b m n lt g lb sf sb)(h:A W d)(lo hi:Nat)(hab:lo<=hi)(hhi:hi<=n) :
  Calls Tryz.prog 235 #[.agg #[.func (.func g) #[] lb,.func (.func sf) #[] sb],.int .i64 lo,.int .i64 hi] W λe w'=>e = .returned (.tuple #[])/\A w' (insertionSort lt d lo hi)/\iG b W w':=by
 have HB:=hid (bl.start K h 242)
 have hsm:=K.small
 have eg:=K.enters
 clear h
 go_in
 go_wp2
 go_loopw [6] (λvi wr=>∃(i:Nat) (dk:Array α),vi = .int .i64 i/\lo<i/\i<=hi+1/\bl A b lb sb g sf 242 W W.heap.size wr dk/\insOuter lt lo hi i dk=insOuter lt lo hi (lo+1) d) (λvi _=>hi+1 - (intOf vi).toNat)
 case atStart=>exact⟨lo+1,d,by go_num,by omega,by omega,HB.out,rfl⟩
 case round =>
  obtain⟨i,dk,rfl,hai,hib,hB,hO⟩:=hrel;have HO:=hid hO;clear hO HB;go_wp2
  ·go_loopw [7] (λvj wr2=>∃(j:Nat) (dj:Array α),vj = .int .i64 j/\lo<=j/\j<=i/\bl A b lb sb g sf 242 W W.heap.size wr2 dj/\insInner lt lo j dj=insInner lt lo i dk) (λvj _=>(intOf vj).toNat)
   case atStart=>exact⟨i,dk,rfl,by omega,Nat.le_refl _,hB,rfl⟩
   case round =>
    obtain⟨j,dj,rfl,haj,hji,Xk,hI⟩:=hrel;have hlt:i<hi:=zz;have c0:=Xk.c0;have Nb:=hid Xk;have HI:=hid hI;clear hB Xk hI
    have OUT:Hid ((j<=lo\/lt dj[j]! dj[j - 1]! = false)->∀w',bl A b lb sb g sf 242 W W.heap.size w' dj->∃(i':Nat) (dk':Array α),Value.int .i64 ((i:Int)+1) = .int .i64 (i':Nat)/\lo<i'/\i'<=hi+1/\bl A b lb sb g sf 242 W W.heap.size w' dk'/\insOuter lt lo hi i' dk'=insOuter lt lo hi (lo+1) d):=λhs w' hw =>
     ⟨i+1,dj,by go_num,by omega,by omega,hw,by rw[← HO.out,insOuter_go _ _ _ _ _ hlt,← HI.out,insInner_stop _ _ _ _ hs]⟩
    by_cases hja:lo<j
    ·have hl:=K.less j (j - 1) Nb.out.row zo zo;rw[show(((j - 1:Nat):Int))=(j:Int) - 1 by omega]at hl
     cases hlv:lt dj[j]! dj[j - 1]! with
     | true =>
      rw[hlv]at hl
      go_wp2_with (go_at_fn g;refine hl.mono ?_;rintro e w' ⟨rfl,hb⟩;have SD:=Nb.out.next K hb;have c1:=SD.c1;clear hb)
      obtain⟨W',hs,ha,a_⟩:=K.swap j (j - 1) SD.row zo zo
      rw[show(((j - 1:Nat):Int))=(j:Int) - 1 by omega]at hs
      rw[hs,Oper.upon_value]
      have U3:=SD.turn ha a_
      clear hl hs ha a_ SD c1 c0
      go_wp2
      go_roundw
      case rel =>
       (repeat apply Exists.intro)
       exact⟨⟨j - 1,swp dj j (j - 1),by congr 1 <;> omega,by omega,by omega,U3,by rw[← HI.out,insInner_go lt lo j dj hja hlv]⟩,by rw[decide_eq_true hlt,show((j - 1:Nat):Int)=(j:Int) - 1 by omega]⟩
      case measure=>simp[intOf];omega
     | false =>
      rw[hlv]at hl
      go_wp2_with (go_at_fn g;refine hl.mono ?_;rintro e w' ⟨rfl,hb⟩;have SD:=Nb.out.next K hb;clear hb)
      go_roundw
      case rel=>exact OUT.out (Or.inr hlv) _ SD
      case measure=>simp[intOf];omega
    ·go_wp2;go_roundw
     case rel=>exact OUT.out (Or.inl zo) _ Nb.out
     case measure=>simp[intOf];omega
  ·have hge : ¬i<hi:=zz;go_end0;exact⟨rfl,by unfold insertionSort;rw[← HO.out,insOuter_stop _ _ _ _ _ hge];exact hB.row,hB.bar⟩
end
end So
end Go.Proofs.YtbhnbcadgmagpaaGreatDoor
namespace Go.Proofs.YtbhnbcadgmagpaaGreatDoor
open Go.ChangeShapes Go.WideShapes Go.ChangeAt Go.RowKit Go.aN Go.Lib
namespace So
open Go.Sort
section
variable {α:Type}[Inhabited α]{A:World->Array α->Prop}{b m n:Nat}{lt:α->α->Bool}{g:Nat}{lb:Array Value}{sf:Nat}{sb:Array Value}{W:World}{d:Array α}
theorem qE(K:VA Tryz.prog A b m n lt g lb sf sb)(h:A W d)(lo hi first:Nat)(hlo:lo<=hi)(hb:first+hi<=n) :
  Calls Tryz.prog 270 #[.agg #[.func (.func g) #[] lb,.func (.func sf) #[] sb],.int .i64 lo,.int .i64 hi,.int .i64 first] W λe w'=>e = .returned (.tuple #[])/\A w' (siftDown lt hi first lo d)/\iG b W w':=by
 have HB:=hid (bl.start K h 242)
 have hsm:=K.small
 have eg:=K.enters
 clear h
 go_in
 go_wp2
 go_loopw [8] (λvi wr=>∃(root:Nat) (dk:Array α),vi = .int .i64 root/\root<=hi/\bl A b lb sb g sf 242 W W.heap.size wr dk/\siftDown lt hi first root dk=siftDown lt hi first lo d) (λvi _=>hi - (intOf vi).toNat)
 case atStart=>exact⟨lo,d,rfl,hlo,HB.out,rfl⟩
 case round =>
  obtain⟨root,dk,rfl,hr,hB,hS⟩:=hrel;have HS:=hid hS;have pE:=hid hB;have c0:=hB.c0;clear hS HB hB;by_cases h0:hi<=2*root+1
  ·go_wp2;go_end0;exact⟨rfl,by rw[← HS.out,sd_end lt dk h0];exact pE.out.row,pE.out.bar⟩
  ·by_cases h1:2*root+2<hi
   ·have hl:=K.less (first+(2*root+1)) (first+(2*root+2)) pE.out.row zo zo;rw[show((first+(2*root+1):Nat):Int)=(first:Int)+(2*(root:Int)+1) by omega,show((first+(2*root+2):Nat):Int)=(first:Int)+(2*(root:Int)+1)+1 by omega]at hl
    cases hlv:lt dk[first+(2*root+1)]! dk[first+(2*root+2)]! with
    | true =>
     rw[hlv]at hl
     go_wp2_with (go_at_fn g;refine hl.mono ?_;rintro e w2 ⟨rfl,aZ⟩;have dG:=hid (pE.out.next K aZ);have YX:=dG.out.c0;clear aZ c0)
     clear hl
     have qJ:=K.less (first+root) (first+(2*root+2)) dG.out.row zo zo
     rw[show((first+root:Nat):Int)=(first:Int)+(root:Int) by omega,show((first+(2*root+2):Nat):Int)=(first:Int)+(2*(root:Int)+1+1) by omega]at qJ
     cases Cq:lt dk[first+root]! dk[first+(2*root+2)]! with
     | true =>
      rw[Cq]at qJ
      go_wp2_with (go_at_fn g;refine qJ.mono ?_;rintro e w3 ⟨rfl,eP⟩;have fF:=hid (dG.out.next K eP);have c1:=fF.out.c1;clear eP)
      obtain⟨W',hs,ha,a_⟩:=K.swap (first+root) (first+(2*root+2)) fF.out.row zo zo
      rw[show((first+root:Nat):Int)=(first:Int)+(root:Int) by omega,show((first+(2*root+2):Nat):Int)=(first:Int)+(2*(root:Int)+1+1) by omega]at hs
      rw[hs,Oper.upon_value]
      have rL:=hid (fF.out.turn ha a_)
      clear qJ hs ha a_ c1
      go_wp2
      go_roundw
      case rel =>
       exact⟨2*root+2,swp dk (first+root) (first+(2*root+2)),by congr 1 <;> omega,by omega,rL.out,by rw[← HS.out];exact(sd_right_go lt dk h1 hlv Cq).symm⟩
      case measure=>simp[intOf];omega
     | false =>
      rw[Cq]at qJ
      go_wp2_with (go_at_fn g;refine qJ.mono ?_;rintro e w3 ⟨rfl,eP⟩;have fF:=hid (dG.out.next K eP);clear eP)
      exact bodyPost_ret (results_none rfl _ _ _) rfl ⟨rfl,by rw[← HS.out,sd_right_stop lt dk h1 hlv Cq];exact fF.out.row,fF.out.bar⟩
    | false =>
     rw[hlv]at hl
     go_wp2_with (go_at_fn g;refine hl.mono ?_;rintro e w2 ⟨rfl,aZ⟩;have dG:=hid (pE.out.next K aZ);have YX:=dG.out.c0;clear aZ c0)
     clear hl
     have qJ:=K.less (first+root) (first+(2*root+1)) dG.out.row zo zo
     rw[show((first+root:Nat):Int)=(first:Int)+(root:Int) by omega,show((first+(2*root+1):Nat):Int)=(first:Int)+(2*(root:Int)+1) by omega]at qJ
     cases Cq:lt dk[first+root]! dk[first+(2*root+1)]! with
     | true =>
      rw[Cq]at qJ
      go_wp2_with (go_at_fn g;refine qJ.mono ?_;rintro e w3 ⟨rfl,eP⟩;have fF:=hid (dG.out.next K eP);have c1:=fF.out.c1;clear eP)
      obtain⟨W',hs,ha,a_⟩:=K.swap (first+root) (first+(2*root+1)) fF.out.row zo zo
      rw[show((first+root:Nat):Int)=(first:Int)+(root:Int) by omega,show((first+(2*root+1):Nat):Int)=(first:Int)+(2*(root:Int)+1) by omega]at hs
      rw[hs,Oper.upon_value]
      have rL:=hid (fF.out.turn ha a_)
      clear qJ hs ha a_ c1
      go_wp2
      go_roundw
      case rel =>
       exact⟨2*root+1,swp dk (first+root) (first+(2*root+1)),by congr 1 <;> omega,by omega,rL.out,by rw[← HS.out];exact(sd_left_go lt dk zo (λ_=>hlv) Cq).symm⟩
      case measure=>simp[intOf];omega
     | false =>
      rw[Cq]at qJ
      go_wp2_with (go_at_fn g;refine qJ.mono ?_;rintro e w3 ⟨rfl,eP⟩;have fF:=hid (dG.out.next K eP);clear eP)
      exact bodyPost_ret (results_none rfl _ _ _) rfl ⟨rfl,by rw[← HS.out,sd_left_stop lt dk zo (λ_=>hlv) Cq];exact fF.out.row,fF.out.bar⟩
   ·have dG:=pE;have YX:=c0;clear pE;have qJ:=K.less (first+root) (first+(2*root+1)) dG.out.row zo zo;rw[show((first+root:Nat):Int)=(first:Int)+(root:Int) by omega,show((first+(2*root+1):Nat):Int)=(first:Int)+(2*(root:Int)+1) by omega]at qJ
    cases Cq:lt dk[first+root]! dk[first+(2*root+1)]! with
    | true =>
     rw[Cq]at qJ
     go_wp2_with (go_at_fn g;refine qJ.mono ?_;rintro e w3 ⟨rfl,eP⟩;have fF:=hid (dG.out.next K eP);have c1:=fF.out.c1;clear eP)
     obtain⟨W',hs,ha,a_⟩:=K.swap (first+root) (first+(2*root+1)) fF.out.row zo zo
     rw[show((first+root:Nat):Int)=(first:Int)+(root:Int) by omega,show((first+(2*root+1):Nat):Int)=(first:Int)+(2*(root:Int)+1) by omega]at hs
     rw[hs,Oper.upon_value]
     have rL:=hid (fF.out.turn ha a_)
     clear qJ hs ha a_ c1
     go_wp2
     go_roundw
     case rel =>
      exact⟨2*root+1,swp dk (first+root) (first+(2*root+1)),by congr 1 <;> omega,by omega,rL.out,by rw[← HS.out];exact(sd_left_go lt dk zo (λh=>absurd h h1) Cq).symm⟩
     case measure=>simp[intOf];omega
    | false =>
     rw[Cq]at qJ
     go_wp2_with (go_at_fn g;refine qJ.mono ?_;rintro e w3 ⟨rfl,eP⟩;have fF:=hid (dG.out.next K eP);clear eP)
     exact bodyPost_ret (results_none rfl _ _ _) rfl ⟨rfl,by rw[← HS.out,sd_left_stop lt dk zo (λh=>absurd h h1) Cq];exact fF.out.row,fF.out.bar⟩
end
end So
end Go.Proofs.YtbhnbcadgmagpaaGreatDoor
namespace Go.Proofs.YtbhnbcadgmagpaaGreatDoor
open Go.ChangeShapes Go.WideShapes Go.ChangeAt Go.RowKit Go.aN Go.Lib
namespace So
open Go.Sort
section
variable {α:Type}[Inhabited α]{A:World->Array α->Prop}{b m n:Nat}{lt:α->α->Bool}{g:Nat}{lb:Array Value}{sf:Nat}{sb:Array Value}{W:World}{d:Array α}
theorem zK(K:VA Tryz.prog A b m n lt g lb sf sb)(h:A W d)(lo hi:Nat)(hab:lo<=hi)(hb:hi<=n) :
  Calls Tryz.prog 236 #[.agg #[.func (.func g) #[] lb,.func (.func sf) #[] sb],.int .i64 lo,.int .i64 hi] W λe w'=>e = .returned (.tuple #[])/\A w' (heapSort lt d lo hi)/\iG b W w':=by
 have HB:=hid (bl.start K h 242)
 have hsm:=K.small
 have eg:=K.enters
 have hst:=half_start hab
 clear h
 go_in
 go_wp2
 go_loopw [9] (λvi wr=>∃(k:Nat) (dk:Array α),vi = .int .i64 ((k:Int) - 1)/\k<=(hi - lo - 1) / 2+1/\bl A b lb sb g sf 242 W W.heap.size wr dk/\heapBuild lt (hi - lo) lo k dk=heapBuild lt (hi - lo) lo ((hi - lo - 1) / 2+1) d) (λvi _=>(intOf vi+1).toNat)
 case atStart=>exact⟨(hi - lo - 1) / 2+1,d,by congr 1;omega,Nat.le_refl _,HB.out,rfl⟩
 case round =>
  obtain⟨k,dk,rfl,hk,hB,hS⟩:=hrel;have HS:=hid hS;have pE:=hid hB;clear hS HB hB hst
  cases k with
  | zero =>
   have HP:Hid (dk=heapBuild lt (hi - lo) lo ((hi - lo - 1) / 2+1) d):=HS.out
   generalize hy:(((0:Nat):Int) - 1)=y
   have hy0:y<0:=zo
   clear hy
   go_wp2
   go_loopw [10] (λvi wr=>∃(k:Nat) (dk:Array α),vi = .int .i64 ((k:Int) - 1)/\k<=hi - lo/\bl A b lb sb g sf 242 W W.heap.size wr dk/\heapPop lt lo k dk=heapSort lt d lo hi) (λvi _=>(intOf vi+1).toNat)
   case atStart=>exact⟨hi - lo,dk,by congr 1;omega,Nat.le_refl _,pE.out,by unfold heapSort;rw[← HP.out]⟩
   case round =>
    obtain⟨k,dj,rfl,hk2,hB,hS⟩:=hrel;have P3:=hid hS;have Nb:=hid hB;clear hS hB pE HP HS
    cases k with
    | zero =>
     go_wp2
     go_end0
     exact⟨rfl,by rw[← P3.out];exact Nb.out.row,Nb.out.bar⟩
    | succ k =>
     have c1:=Nb.out.c1
     obtain⟨W',hs,ha,a_⟩:=K.swap lo (lo+k) Nb.out.row zo zo
     generalize hz:(((k+1:Nat):Int) - 1)=z
     rw[show((lo+k:Nat):Int)=(lo:Int)+z by omega]at hs
     have rL:=hid (Nb.out.turn ha a_)
     have d0:=rL.out.c0
     have d1:=rL.out.c1
     clear ha a_
     have hd:=qE K rL.out.row 0 k lo zo zo
     rw[show((k:Nat):Int)=z by omega]at hd
     go_wp2_with (go_at_call 270;refine hd.mono ?_;rintro e w3 ⟨rfl,ha,a_⟩;have Dw:=hid (rL.out.turn ha a_);clear ha a_ hd c1 d0 d1 hs)
     go_roundw
     case rel=>exact⟨k,_,by congr 1;omega,by omega,Dw.out,P3.out⟩
     case measure=>simp[intOf];omega
  | succ k =>
   have c0:=pE.out.c0
   have c1:=pE.out.c1
   have hd:=qE K pE.out.row k (hi - lo) lo zo zo
   generalize hz:(((k+1:Nat):Int) - 1)=z
   rw[show((k:Nat):Int)=z by omega,show((hi - lo:Nat):Int)=(hi:Int) - (lo:Int) by omega]at hd
   go_wp2_with (go_at_call 270;refine hd.mono ?_;rintro e w3 ⟨rfl,ha,a_⟩;have Dw:=hid (pE.out.turn ha a_);clear ha a_ hd c0 c1)
   go_roundw
   case rel=>exact⟨k,_,by congr 1;omega,by omega,Dw.out,HS.out⟩
   case measure=>simp[intOf];omega
end
end So
end Go.Proofs.YtbhnbcadgmagpaaGreatDoor
namespace Go.Proofs.YtbhnbcadgmagpaaGreatDoor
open Go.ChangeShapes Go.WideShapes Go.ChangeAt Go.RowKit Go.aN Go.Lib
namespace So
open Go.Sort (Hint order2 median medianAdjacent choosePivot hintCode)
section
variable {α:Type}{A:World->Array α->Prop}{m:Nat}{g:Nat}{lb:Array Value}{sf:Nat}{sb:Array Value}{W We:World}{d:Array α}{x p s:Nat}
def FC(m p s:Nat)(W:World):Prop:=W.heap[p]? = some (.cells #[.int .i64 (s:Int)] 3 (0,0))/\m<=p
theorem FC.next{p s:Nat}{W W':World}(h:FC m p s W)(hb:Below W.heap.size W W'):FC m p s W':=⟨(hb.block _ (Array.getElem?_eq_some_iff.1 h.1).1).trans h.1,h.2⟩
theorem FC.inb{p s:Nat}{W:World}(h:FC m p s W):p<W.heap.size:=(Array.getElem?_eq_some_iff.1 h.1).1
structure Cr(A:World->Array α->Prop)(m:Nat)(lb sb:Array Value)(g sf:Nat)(We:World)(x p s:Nat)(W:World)(d:Array α):Prop where
 row:A W d
 box:W.heap[x]? = some (.cells #[.func (.func g) #[] lb,.func (.func sf) #[] sb] 242 (0,0))
 cnt:FC m p s W
 ne:x≠p
 bar:iG p We W
theorem Cr.turn(H:Cr A m lb sb g sf We x p s W d){W':World}{s':Nat}(ha:A W' d)(hc:FC m p s' W')(hb:iG p W W'):Cr A m lb sb g sf We x p s' W' d :=
 ⟨ha,hb.heap H.box H.ne,hc,H.ne,H.bar.trans hb⟩
theorem Cr.c0(H:Cr A m lb sb g sf We x p s W d):W.cell? ⟨x,0,none⟩=some (.func (.func g) #[] lb):=by simp[World.cell?,H.box]
theorem Cr.c1(H:Cr A m lb sb g sf We x p s W d):W.cell? ⟨x,1,none⟩=some (.func (.func sf) #[] sb):=by simp[World.cell?,H.box]
end
section
variable {α:Type}[Inhabited α]{A:World->Array α->Prop}{b m n:Nat}{lt:α->α->Bool}{g:Nat}{lb:Array Value}{sf:Nat}{sb:Array Value}{W:World}{d:Array α}
section
variable {We:World}{x p s:Nat}
theorem Cr.start(K:VA Tryz.prog A b m n lt g lb sf sb)(h:A W d)(hc:FC m p s W):Cr A m lb sb g sf W W.heap.size p s (W.alloc (.cells #[.func (.func g) #[] lb,.func (.func sf) #[] sb] 242)) d :=
 ⟨K.next h ((Below.refl _ W).alloc zl _),heap_alloc_new W _,hc.next ((Below.refl _ W).alloc zl _),by have:=hc.inb;omega,iG.aS ((Below.refl _ W).alloc zl _)⟩
theorem Cr.next(H:Cr A m lb sb g sf We x p s W d)(K:VA Tryz.prog A b m n lt g lb sf sb){W':World}(hb:Below W.heap.size W W'):Cr A m lb sb g sf We x p s W' d :=
 ⟨K.next H.row hb,(hb.block _ (Array.getElem?_eq_some_iff.1 H.box).1).trans H.box,H.cnt.next hb,H.ne,H.bar.next hb⟩
end
theorem o9(K:VA Tryz.prog A b m n lt g lb sf sb)(h:A W d)(i j p s i2 j2 s2:Nat)(hc:FC m p s W)(hs:s<1000)(hi:i<n)(hj:j<n)(hr:order2 lt d i j s=(i2,j2,s2)) :
  Calls Tryz.prog 295 #[.agg #[.func (.func g) #[] lb,.func (.func sf) #[] sb],.int .i64 i,.int .i64 j,.pointer (some ⟨p,0,none⟩)] W λe w'=>e = .returned (.tuple #[.int .i64 (i2:Nat),.int .i64 (j2:Nat)])/\A w' d/\FC m p s2 w'/\iG p W w':=by
 have HB:=hid (Cr.start K h hc)
 have c0:=HB.out.c0
 have eg:=K.enters
 have hl:=K.less j i HB.out.row hj hi
 clear h hc
 unfold order2 at hr
 cases hlv:lt d[j]! d[i]! with
 | true =>
  rw[hlv,if_pos rfl]at hr
  injection hr with r1 r2
  injection r2 with r2 r3
  subst r1 r2 r3
  rw[hlv]at hl
  go_in
  go_wp2_with (go_at_fn g;refine hl.mono ?_;rintro e w2 ⟨rfl,hb⟩;have dG:=hid (HB.out.next K hb);have pc:=(qD dG.out.cnt.1).1;have pf:=(qD dG.out.cnt.1).2;clear hb c0)
  go_ret2
  exact⟨rfl,K.other dG.out.row dG.out.cnt.2 (iG.set _ _ _),⟨Pe _ dG.out.cnt.1,dG.out.cnt.2⟩,dG.out.bar.trans (iG.set _ _ _)⟩
 | false =>
  rw[hlv,if_neg zs]at hr
  injection hr with r1 r2
  injection r2 with r2 r3
  subst r1 r2 r3
  rw[hlv]at hl
  go_in
  go_wp2_with (go_at_fn g;refine hl.mono ?_;rintro e w2 ⟨rfl,hb⟩;have dG:=hid (HB.out.next K hb);clear hb c0)
  go_ret2
  exact⟨rfl,dG.out.row,dG.out.cnt,dG.out.bar⟩
theorem jg{d:Array α}{i j s i2 j2 s2:Nat}(hr:order2 lt d i j s=(i2,j2,s2))(hi:i<n)(hj:j<n):i2<n/\j2<n/\s2<=s+1:=by
 unfold order2 at hr;split at hr
 ·injection hr with r1 r2;injection r2 with r2 r3;omega
 ·injection hr with r1 r2;injection r2 with r2 r3;omega
theorem IM{d:Array α}{i j k s r s2:Nat}(hr:median lt d i j k s=(r,s2))(hi:i<n)(hj:j<n)(hk:k<n):r<n/\s2<=s+3:=by
 obtain⟨a1,b1,s1,e1⟩:∃a1 b1 s1,order2 lt d i j s=(a1,b1,s1):=⟨_,_,_,rfl⟩;obtain⟨b2,c2,s3,e2⟩:∃b2 c2 s3,order2 lt d b1 k s1=(b2,c2,s3):=⟨_,_,_,rfl⟩;obtain⟨a3,b3,s4,e3⟩:∃a3 b3 s4,order2 lt d a1 b2 s3=(a3,b3,s4):=⟨_,_,_,rfl⟩;have h1:=jg e1 hi hj;have h2:=jg e2 h1.2.1 hk;have h3:=jg e3 h1.1 h2.1;unfold median at hr;simp only[e1,e2,e3]at hr;injection hr with r1 r2;omega
theorem o_(K:VA Tryz.prog A b m n lt g lb sf sb)(h:A W d)(i j k p s r s5:Nat)(hc:FC m p s W)(hs:s<900)(hi:i<n)(hj:j<n)(hk:k<n)(hr:median lt d i j k s=(r,s5)) :
  Calls Tryz.prog 274 #[.agg #[.func (.func g) #[] lb,.func (.func sf) #[] sb],.int .i64 i,.int .i64 j,.int .i64 k,.pointer (some ⟨p,0,none⟩)] W λe w'=>e = .returned (.int .i64 (r:Nat))/\A w' d/\FC m p s5 w'/\iG p W w':=by
 obtain⟨a1,b1,s1,e1⟩:∃a1 b1 s1,order2 lt d i j s=(a1,b1,s1):=⟨_,_,_,rfl⟩
 obtain⟨b2,c2,s3,e2⟩:∃b2 c2 s3,order2 lt d b1 k s1=(b2,c2,s3):=⟨_,_,_,rfl⟩
 obtain⟨a3,b3,s4,e3⟩:∃a3 b3 s4,order2 lt d a1 b2 s3=(a3,b3,s4):=⟨_,_,_,rfl⟩
 have h1:=jg e1 hi hj
 have h2:=jg e2 h1.2.1 hk
 have h3:=jg e3 h1.1 h2.1
 unfold median at hr
 simp only[e1,e2,e3]at hr
 injection hr with r1 r2
 subst r1 r2
 have HB:=hid (Cr.start K h hc)
 have c0:=HB.out.c0
 have c1:=HB.out.c1
 clear h hc
 go_in
 go_wp2_with fail
 refine(o9 K HB.out.row i j p s a1 b1 s1 HB.out.cnt zo hi hj e1).mono ?_
 rintro e w1 ⟨rfl,ha,hcn,hb⟩
 have dF:=hid (HB.out.turn ha hcn hb)
 clear ha hcn hb c0 c1 HB
 have c0:=dF.out.c0
 have c1:=dF.out.c1
 go_wp2_with fail
 refine(o9 K dF.out.row b1 k p s1 b2 c2 s3 dF.out.cnt zo h1.2.1 hk e2).mono ?_
 rintro e w2 ⟨rfl,ha,hcn,hb⟩
 have dG:=hid (dF.out.turn ha hcn hb)
 clear ha hcn hb c0 c1 dF
 have c0:=dG.out.c0
 have c1:=dG.out.c1
 go_wp2_with fail
 refine(o9 K dG.out.row a1 b2 p s3 a3 b3 s4 dG.out.cnt zo h1.1 h2.1 e3).mono ?_
 rintro e w3 ⟨rfl,ha,hcn,hb⟩
 have fF:=hid (dG.out.turn ha hcn hb)
 clear ha hcn hb c0 c1 dG
 go_wp2_with fail
 go_ret
 exact⟨rfl,fF.out.row,fF.out.cnt,fF.out.bar⟩
theorem fZ(K:VA Tryz.prog A b m n lt g lb sf sb)(h:A W d)(i p s r s5:Nat)(hc:FC m p s W)(hs:s<900)(h0:0<i)(hi:i+1<n)(hr:medianAdjacent lt d i s=(r,s5)) :
  Calls Tryz.prog 273 #[.agg #[.func (.func g) #[] lb,.func (.func sf) #[] sb],.int .i64 i,.pointer (some ⟨p,0,none⟩)] W λe w'=>e = .returned (.int .i64 (r:Nat))/\A w' d/\FC m p s5 w'/\iG p W w':=by
 have HB:=hid (Cr.start K h hc)
 have c0:=HB.out.c0
 have c1:=HB.out.c1
 have hsm:=K.small
 clear h hc
 have hm:=o_ K HB.out.row (i - 1) i (i+1) p s r s5 HB.out.cnt hs zo zo hi hr
 rw[show((i - 1:Nat):Int)=(i:Int) - 1 by omega,show((i+1:Nat):Int)=(i:Int)+1 by omega]at hm
 go_in
 go_wp2_with fail
 refine hm.mono ?_
 rintro e w3 ⟨rfl,ha,hcn,hb⟩
 have fF:=hid (HB.out.turn ha hcn hb)
 clear ha hcn hb c0 c1 HB hm
 go_wp2_with fail
 go_ret
 exact⟨rfl,fF.out.row,fF.out.cnt,fF.out.bar⟩
theorem gQ{d:Array α}{i s r s2:Nat}(hr:medianAdjacent lt d i s=(r,s2))(h0:0<i)(hi:i+1<n):r<n/\s2<=s+3:=IM hr zo zo hi
theorem iG.Cs{p k:Nat}{w w':World}(h:iG p w w')(hp:k<=p)(hk:k<=w.heap.size):Below k w w':=⟨h.os,h.tape,h.output,h.size,λj hj=>h.block j zo zo⟩
theorem ya{d:Array α}{lo hi q r s:Nat}(h12:12<hi - lo)(hq:(hi - lo) / 4=q)(hr:(if hi - lo>=50 then median lt d (medianAdjacent lt d (lo+q) 0).1 (medianAdjacent lt d (lo+q*2) (medianAdjacent lt d (lo+q) 0).2).1 (medianAdjacent lt d (lo+q*3) (medianAdjacent lt d (lo+q*2) (medianAdjacent lt d (lo+q) 0).2).2).1 (medianAdjacent lt d (lo+q*3) (medianAdjacent lt d (lo+q*2) (medianAdjacent lt d (lo+q) 0).2).2).2 else median lt d (lo+q) (lo+q*2) (lo+q*3) 0)=(r,s)) :
  choosePivot lt d lo hi=(r,if s=0 then Hint.increasing else if s=12 then Hint.decreasing else Hint.unknown):=by
 unfold choosePivot
 simp only[hq,Nat.mul_one]
 rw[if_pos (show hi - lo>=8 by omega)]
 by_cases h50:hi - lo>=50
 ·rw[if_pos h50]at hr;rw[if_pos h50,hr]
 ·rw[if_neg h50]at hr;rw[if_neg h50,hr]
theorem tj(K:VA Tryz.prog A b m n lt g lb sf sb)(h:A W d)(lo hi r:Nat)(c:Hint)(h12:12<hi - lo)(hhi:hi<=n)(hr:choosePivot lt d lo hi=(r,c)) :
  Calls Tryz.prog 238 #[.agg #[.func (.func g) #[] lb,.func (.func sf) #[] sb],.int .i64 lo,.int .i64 hi] W λe w'=>e = .returned (.tuple #[.int .i64 (r:Nat),.int .i64 (hintCode c)])/\Below W.heap.size W w':=by
 have hsm:=K.small
 obtain⟨q,hq⟩:∃q,(hi - lo) / 4=q:=⟨_,rfl⟩
 have hqi:((hi:Int) - (lo:Int)).tdiv 4=(q:Int):=by
  rw[show((hi:Int) - (lo:Int))=((hi - lo:Nat):Int) by omega,Int.tdiv_eq_ediv_of_nonneg zo];omega
 have hq1:3<=q:=zo
 have CJ:lo+q*4<=hi:=zo
 obtain⟨W1,oo⟩:∃W1,W1=(W.alloc (.cells #[.func (.func g) #[] lb,.func (.func sf) #[] sb] 242)).alloc (.cells #[.int .i64 0] 3):=⟨_,rfl⟩
 have aK:Below W.heap.size W W1:=by rw[oo];exact((Below.refl _ W).alloc zl _).alloc zs _
 have hm:=K.at_ h
 have HB:Hid (Cr A m lb sb g sf W1 W.heap.size (W.heap.size+1) 0 W1 d):=by
  refine⟨K.next h aK,?_,⟨?_,by omega⟩,by omega,iG.refl _ _⟩
  ·rw[oo];exact(Below.heap_alloc _ _ _ zs).trans (heap_alloc_new W _)
  ·rw[oo];have:=heap_alloc_new (W.alloc (.cells #[.func (.func g) #[] lb,.func (.func sf) #[] sb] 242)) (.cells #[.int .i64 0] 3)
   rwa [World.size_alloc]at this
 have dF:=hid aK
 have c0:=HB.out.c0
 have c1:=HB.out.c1
 clear h aK
 have U4:Hid (∀(s5:Nat) (w5:World),Cr A m lb sb g sf W1 W.heap.size (W.heap.size+1) s5 w5 d->Below W.heap.size W w5):=λs5 w5 H=>dF.out.trans (iG.Cs H.bar zo dF.out.size)
 by_cases h50:50<=hi - lo
 ·obtain⟨ri,si,ei⟩:∃ri si,medianAdjacent lt d (lo+q) 0=(ri,si):=⟨_,_,rfl⟩;obtain⟨rj,sj,ej⟩:∃rj sj,medianAdjacent lt d (lo+q*2) si=(rj,sj):=⟨_,_,rfl⟩;obtain⟨rk,sk,ek⟩:∃rk sk,medianAdjacent lt d (lo+q*3) sj=(rk,sk):=⟨_,_,rfl⟩;obtain⟨rm,sm,em⟩:∃rm sm,median lt d ri rj rk sk=(rm,sm):=⟨_,_,rfl⟩;have hc:=ya (lt:=lt) (d:=d) (r:=rm) (s:=sm) h12 hq (by rw[if_pos (show hi - lo>=50 from h50),ei];simp only;rw[ej];simp only;rw[ek];exact em);rw[hr]at hc;injection hc with hc1 hc2;subst hc1;have bi:=gQ (n:=n) ei zo zo;have bj:=gQ (n:=n) ej zo zo;have bk:=gQ (n:=n) ek zo zo;have m1:=fZ K HB.out.row (lo+q) (W.heap.size+1) 0 ri si HB.out.cnt zo zo zo ei;rw[show((lo+q:Nat):Int)=(lo:Int)+(q:Int) by omega]at m1;go_in;go_wp2_with fail;simp only[← oo];refine m1.mono ?_;rintro e w1 ⟨rfl,ha,hcn,hb⟩;have dG:=hid (HB.out.turn ha hcn hb);clear ha hcn hb c0 c1 m1 HB;have c0:=dG.out.c0;have c1:=dG.out.c1;have mm:=fZ K dG.out.row (lo+q*2) (W.heap.size+1) si rj sj dG.out.cnt zo zo zo ej;rw[show((lo+q*2:Nat):Int)=(lo:Int)+(q:Int)*2 by omega]at mm;go_wp2_with fail;refine mm.mono ?_;rintro e w1 ⟨rfl,ha,hcn,hb⟩;have fF:=hid (dG.out.turn ha hcn hb);clear ha hcn hb c0 c1 mm dG;have c0:=fF.out.c0;have c1:=fF.out.c1;have mm:=fZ K fF.out.row (lo+q*3) (W.heap.size+1) sj rk sk fF.out.cnt zo zo zo ek;rw[show((lo+q*3:Nat):Int)=(lo:Int)+(q:Int)*3 by omega]at mm;go_wp2_with fail;refine mm.mono ?_;rintro e w1 ⟨rfl,ha,hcn,hb⟩;have rL:=hid (fF.out.turn ha hcn hb);clear ha hcn hb c0 c1 mm fF;have c0:=rL.out.c0;have c1:=rL.out.c1;have mm:=o_ K rL.out.row ri rj rk (W.heap.size+1) sk r sm rL.out.cnt zo bi.1 bj.1 bk.1 em;go_wp2_with fail;refine mm.mono ?_;rintro e w1 ⟨rfl,ha,hcn,hb⟩;have HF:=hid (rL.out.turn ha hcn hb);clear ha hcn hb c0 c1 mm rL;have c0:=HF.out.c0;have c1:=HF.out.c1;obtain⟨pc,-⟩:=qD HF.out.cnt.1;have tf:=hid (U4.out _ _ HF.out);clear U4 dF HF
  rcases Nat.eq_zero_or_pos sm with hz | hz
  ·subst hz;rw[if_pos rfl]at hc2;subst hc2;go_wp2_with fail;go_ret2;exact⟨rfl,tf.out⟩
  ·have z0:((sm:Int)==0)=false:=by rw[beq_eq_false_iff_ne];omega
   rw[if_neg zo]at hc2;by_cases ht:sm=12
   ·subst ht;rw[if_pos rfl]at hc2;subst hc2;go_wp2_with fail;go_ret2;exact⟨rfl,tf.out⟩
   ·have z12:((sm:Int)==12)=false:=by rw[beq_eq_false_iff_ne];omega
    rw[if_neg ht]at hc2;subst hc2;go_wp2_with fail;go_ret2;exact⟨rfl,tf.out⟩
 ·obtain⟨rm,sm,em⟩:∃rm sm,median lt d (lo+q) (lo+q*2) (lo+q*3) 0=(rm,sm):=⟨_,_,rfl⟩;have hc:=ya (lt:=lt) (d:=d) (r:=rm) (s:=sm) h12 hq (by rw[if_neg (show ¬hi - lo>=50 from h50)];exact em);rw[hr]at hc;injection hc with hc1 hc2;subst hc1;have mm:=o_ K HB.out.row (lo+q) (lo+q*2) (lo+q*3) (W.heap.size+1) 0 r sm HB.out.cnt zo zo zo zo em;rw[show((lo+q:Nat):Int)=(lo:Int)+(q:Int) by omega,show((lo+q*2:Nat):Int)=(lo:Int)+(q:Int)*2 by omega,show((lo+q*3:Nat):Int)=(lo:Int)+(q:Int)*3 by omega]at mm;go_in;go_wp2_with fail;simp only[← oo];refine mm.mono ?_;rintro e w1 ⟨rfl,ha,hcn,hb⟩;have HF:=hid (HB.out.turn ha hcn hb);clear ha hcn hb c0 c1 mm HB;have c0:=HF.out.c0;have c1:=HF.out.c1;obtain⟨pc,-⟩:=qD HF.out.cnt.1;have tf:=hid (U4.out _ _ HF.out);clear U4 dF HF
  rcases Nat.eq_zero_or_pos sm with hz | hz
  ·subst hz;rw[if_pos rfl]at hc2;subst hc2;go_wp2_with fail;go_ret2;exact⟨rfl,tf.out⟩
  ·have z0:((sm:Int)==0)=false:=by rw[beq_eq_false_iff_ne];omega
   rw[if_neg zo]at hc2;by_cases ht:sm=12
   ·subst ht;rw[if_pos rfl]at hc2;subst hc2;go_wp2_with fail;go_ret2;exact⟨rfl,tf.out⟩
   ·have z12:((sm:Int)==12)=false:=by rw[beq_eq_false_iff_ne];omega
    rw[if_neg ht]at hc2;subst hc2;go_wp2_with fail;go_ret2;exact⟨rfl,tf.out⟩
end
end So
end Go.Proofs.YtbhnbcadgmagpaaGreatDoor
namespace Go.Proofs.YtbhnbcadgmagpaaGreatDoor
open Go.ChangeShapes Go.WideShapes Go.ChangeAt Go.RowKit Go.aN Go.Lib
namespace So
open Go.Sort (swp scanSorted shiftDown shiftUp partialIns partialInsertionSort partialIns_succ fixDown fixUp)
section
variable {α:Type}[Inhabited α]{A:World->Array α->Prop}{b m n:Nat}{lt:α->α->Bool}{g:Nat}{lb:Array Value}{sf:Nat}{sb:Array Value}{W:World}{d:Array α}
theorem shiftDown_go{j:Nat}{d:Array α}(h:lt d[j+1]! d[j]! = true):shiftDown lt (j+1) d=shiftDown lt j (swp d (j+1) j):=by
 rw[shiftDown,h];rfl
theorem shiftDown_stop{j:Nat}{d:Array α}(h:lt d[j+1]! d[j]! = false):shiftDown lt (j+1) d=d:=by
 rw[shiftDown,h];rfl
theorem shiftUp_go{b j:Nat}{d:Array α}(hj:j<b)(h:lt d[j]! d[j - 1]! = true):shiftUp lt b j d=shiftUp lt b (j+1) (swp d j (j - 1)):=by
 rw[shiftUp,if_pos hj,h];rfl
theorem shiftUp_stop{b j:Nat}{d:Array α}(h : ¬j<b\/lt d[j]! d[j - 1]! = false):shiftUp lt b j d=d:=by
 rw[shiftUp];by_cases hj:j<b
 ·rw[if_pos hj,h.resolve_left (λe=>e hj)];rfl
 ·rw[if_neg hj]
theorem vE(K:VA Tryz.prog A b m n lt g lb sf sb)(h:A W d)(lo hi:Nat)(hlh:lo<hi)(hhi:hi<=n) :
  Calls Tryz.prog 240 #[.agg #[.func (.func g) #[] lb,.func (.func sf) #[] sb],.int .i64 lo,.int .i64 hi] W λe w'=>e = .returned (.bool (partialInsertionSort lt d lo hi).2)/\A w' (partialInsertionSort lt d lo hi).1/\iG b W w':=by
 have HB:=hid (bl.start K h 242)
 have hsm:=K.small
 have eg:=K.enters
 clear h
 go_in
 go_wp2
 go_loopg [7,8] 5 (λgg v7 v8 wr=>∃(i jj:Nat) (dk:Array α),jj<=5/\gg=5 - jj/\v7 = .int .i64 i/\v8 = .int .i64 jj/\lo<i/\i<=hi/\bl A b lb sb g sf 242 W W.heap.size wr dk/\partialIns lt lo hi (5 - jj) i dk=partialInsertionSort lt d lo hi)
 case atStart=>exact⟨lo+1,0,d,by omega,rfl,by go_num,rfl,by omega,by omega,HB.out,rfl⟩
 case round =>
  obtain⟨i,jj,dk,Xe,YY,rfl,rfl,hli,hih,FD,hE⟩:=hrel;have HK:=hid FD;have CH:=hid hE;clear HB FD hE;by_cases hj:jj<5
  ·have hjd:decide ((jj:Int)<5)=true:=decide_eq_true zo;go_upto_block 2 with fail
   try simp only[hjd]
   go_cut [7] (λvv wx=>∃i2:Nat,vv = .int .i64 i2/\i<=i2/\i2<=hi/\bl A b lb sb g sf 242 W W.heap.size wx dk/\scanSorted lt dk hi i=i2)
   case first =>
    go_wp2_with fail;go_loopw [7] (λvv wx=>∃i2:Nat,vv = .int .i64 i2/\i<=i2/\i2<=hi/\bl A b lb sb g sf 242 W W.heap.size wx dk/\scanSorted lt dk hi i2=scanSorted lt dk hi i) (λvv _=>hi - (intOf vv).toNat)
    case atStart=>exact⟨i,rfl,Nat.le_refl _,hih,HK.out,rfl⟩
    case round =>
     obtain⟨i2,rfl,h1,h2,gA,hsc⟩:=hrel;have HX:=hid gA;have HS:=hid hsc;have c0:=gA.c0;clear gA hsc HK;by_cases hle:i2<hi
     ·have hl:=K.less i2 (i2 - 1) HX.out.row zo zo;rw[show((i2 - 1:Nat):Int)=(i2:Int) - 1 by omega]at hl
      cases hlv:lt dk[i2]! dk[i2 - 1]! with
      | false =>
       rw[hlv]at hl
       go_wp2_with (go_at_fn g;refine hl.mono ?_;rintro e w' ⟨rfl,hb⟩;have HY:=hid (HX.out.next K hb);clear hb c0)
       go_roundw
       case rel=>exact⟨i2+1,by go_num,by omega,by omega,HY.out,(scanSorted_go lt dk hi i2 hle hlv).symm.trans HS.out⟩
       case measure=>simp[intOf];omega
      | true =>
       rw[hlv]at hl
       go_wp2_with (go_at_fn g;refine hl.mono ?_;rintro e w' ⟨rfl,hb⟩;have HY:=hid (HX.out.next K hb);clear hb c0)
       go_meet
       exact⟨i2,rfl,h1,h2,HY.out,HS.out.symm.trans (scanSorted_stop lt dk hi i2 (.inr hlv))⟩
     ·go_wp2;go_meet;exact⟨i2,rfl,h1,h2,HX.out,HS.out.symm.trans (scanSorted_stop lt dk hi i2 (.inl hle))⟩
   case rest =>
    obtain⟨i2,rfl,hi2,h2h,gA,hsc⟩:=hcut;have HX:=hid gA
    have T7:Hid (partialInsertionSort lt d lo hi=if i2=hi then(dk,true)else if hi - lo<50 then(dk,false)else partialIns lt lo hi (5 - (jj+1)) i2 (fixUp lt hi i2 (fixDown lt lo i2 (swp dk i2 (i2 - 1))))):=by
     show _=_;rw[← CH.out,show 5 - jj=(5 - (jj+1))+1 by omega,partialIns_succ,hsc]
    clear gA hsc HK CH;by_cases he:i2=hi
    ·have hq:=T7.out;rw[if_pos he]at hq;have HQ:=hid hq;clear hq T7;have hez:(i2:Int)=(hi:Int):=zo;go_wp2;go_ret;rw[HQ.out];exact⟨rfl,HX.out.row,HX.out.bar⟩
    ·by_cases h50:hi - lo<50
     ·have hq:=T7.out;rw[if_neg he,if_pos h50]at hq;have HQ:=hid hq;clear hq;go_wp2;go_ret;rw[HQ.out];exact⟨rfl,HX.out.row,HX.out.bar⟩
     ·have Xl:((i2:Int)==(hi:Int))=false:=by rw[beq_eq_false_iff_ne];omega
      have RV:decide ((hi:Int) - (lo:Int)<50)=false:=decide_eq_false zo;have hq:=T7.out;rw[if_neg he,if_neg h50]at hq;have Xm:=hid hq.symm;clear hq T7;have c1:=HX.out.c1;obtain⟨W1,hs,ha,a_⟩:=K.swap i2 (i2 - 1) HX.out.row zo zo;rw[show((i2 - 1:Nat):Int)=(i2:Int) - 1 by omega]at hs;have SE:=hid (HX.out.turn ha a_);obtain⟨d1,hd1⟩:∃d1,d1=swp dk i2 (i2 - 1):=⟨_,rfl⟩;rw[← hd1]at SE Xm;have HR:=Xm;clear ha a_ Xm;by_cases hd:2<=i2 - lo
      ·have RW:Hid (fixDown lt lo i2 d1=shiftDown lt (i2 - 1) d1):=by show _=_;unfold fixDown;rw[if_pos hd]
       have hdd:decide (2<=(i2:Int) - (lo:Int))=true:=decide_eq_true zo;go_upto_block 4 with fail
       try simp only[RV,hdd,Xl]
       go_cut [] (λwx=>bl A b lb sb g sf 242 W W.heap.size wx (shiftDown lt (i2 - 1) d1))
       case first =>
        clear hs c1;go_wp2_with fail;go_loopw [9] (λvv wx=>∃(j:Nat) (dj:Array α),vv = .int .i64 j/\j<i2/\bl A b lb sb g sf 242 W W.heap.size wx dj/\shiftDown lt j dj=shiftDown lt (i2 - 1) d1) (λvv _=>(intOf vv).toNat)
        case atStart=>exact⟨i2 - 1,d1,by congr 1;omega,by omega,SE.out,rfl⟩
        case round =>
         obtain⟨j,dj,rfl,h1,gA,hsc⟩:=hrel;have p_:=hid gA;have HS:=hid hsc;have c0:=gA.c0;clear gA hsc SE
         cases j with
         | zero =>
          go_wp2
          go_meet
          have QF:dj=shiftDown lt (i2 - 1) d1:=HS.out
          rw[← QF]
          exact p_.out
         | succ j =>
          generalize hz:((j+1:Nat):Int)=z
          have hl:=K.less (j+1) j p_.out.row zo zo
          rw[hz,show((j:Nat):Int)=z - 1 by omega]at hl
          cases hlv:lt dj[j+1]! dj[j]! with
          | true =>
           rw[hlv]at hl
           go_wp2_with (go_at_fn g;refine hl.mono ?_;rintro e w' ⟨rfl,hb⟩;have HY:=hid (p_.out.next K hb);have c1:=HY.out.c1;clear hb c0)
           obtain⟨W',hs,ha,a_⟩:=K.swap (j+1) j HY.out.row zo zo
           rw[hz,show((j:Nat):Int)=z - 1 by omega]at hs
           rw[hs,Oper.upon_value]
           have HZ:=hid (HY.out.turn ha a_)
           clear hl hs ha a_ c1
           go_wp2
           go_roundw
           case rel=>exact⟨j,swp dj (j+1) j,by congr 1;omega,by omega,HZ.out,(shiftDown_go hlv).symm.trans HS.out⟩
           case measure=>simp[intOf];omega
          | false =>
           rw[hlv]at hl
           go_wp2_with (go_at_fn g;refine hl.mono ?_;rintro e w' ⟨rfl,hb⟩;have HY:=hid (p_.out.next K hb);clear hb c0)
           go_meet
           have QF:dj=shiftDown lt (i2 - 1) d1:=(shiftDown_stop hlv).symm.trans HS.out
           rw[← QF]
           exact HY.out
       case rest =>
        have PP:=hid hcut;obtain⟨d2,hd2⟩:∃d2,d2=shiftDown lt (i2 - 1) d1:=⟨_,rfl⟩;rw[← hd2]at PP RW;clear hcut SE hs c1;by_cases hu:2<=hi - i2
        ·have Xn:decide (2<=(hi:Int) - (i2:Int))=true:=decide_eq_true zo
         have T8:Hid (fixUp lt hi i2 d2=shiftUp lt hi (i2+1) d2):=by show _=_;unfold fixUp;rw[if_pos hu]
         go_upto_block 6 with fail
         try simp only[RV,Xn,Xl]
         go_wp2_with fail;go_loopw [10] (λvv wx=>∃(j:Nat) (dj:Array α),vv = .int .i64 j/\i2<j/\j<=hi/\bl A b lb sb g sf 242 W W.heap.size wx dj/\shiftUp lt hi j dj=shiftUp lt hi (i2+1) d2) (λvv _=>hi - (intOf vv).toNat)
         case atStart=>exact⟨i2+1,d2,by go_num,by omega,by omega,PP.out,rfl⟩
         case round =>
          obtain⟨j,dj,rfl,h1,h2,gA,hsc⟩:=hrel;have HX:=hid gA;have HS:=hid hsc;have c0:=gA.c0;clear gA hsc PP;by_cases hle:j<hi
          ·have hl:=K.less j (j - 1) HX.out.row zo zo;rw[show((j - 1:Nat):Int)=(j:Int) - 1 by omega]at hl
           cases hlv:lt dj[j]! dj[j - 1]! with
           | true =>
            rw[hlv]at hl
            go_wp2_with (go_at_fn g;refine hl.mono ?_;rintro e w' ⟨rfl,hb⟩;have HY:=hid (HX.out.next K hb);have c1:=HY.out.c1;clear hb c0)
            obtain⟨W',hs,ha,a_⟩:=K.swap j (j - 1) HY.out.row zo zo
            rw[show((j - 1:Nat):Int)=(j:Int) - 1 by omega]at hs
            rw[hs,Oper.upon_value]
            have HZ:=hid (HY.out.turn ha a_)
            clear hl hs ha a_ c1
            go_wp2
            go_roundw
            case rel=>exact⟨j+1,swp dj j (j - 1),by go_num,by omega,by omega,HZ.out,(shiftUp_go hle hlv).symm.trans HS.out⟩
            case measure=>simp[intOf];omega
           | false =>
            rw[hlv]at hl
            have HE:Hid (dj=fixUp lt hi i2 d2):=((shiftUp_stop (.inr hlv)).symm.trans HS.out).trans T8.out.symm
            go_wp2_with (go_at_fn g;refine hl.mono ?_;rintro e w' ⟨rfl,hb⟩;have HY:=hid (HX.out.next K hb);clear hb c0)
            go_roundg (5 - (jj+1))
            case measure=>omega
            case rel=>exact⟨i2,jj+1,dj,by omega,rfl,rfl,by go_num,by omega,by omega,HY.out,by rw[HE.out,← HR.out,RW.out]⟩
          ·have HE:Hid (dj=fixUp lt hi i2 d2):=((shiftUp_stop (.inl hle)).symm.trans HS.out).trans T8.out.symm;go_wp2;go_roundg (5 - (jj+1))
           case measure=>omega
           case rel=>exact⟨i2,jj+1,dj,by omega,rfl,rfl,by go_num,by omega,by omega,HX.out,by rw[HE.out,← HR.out,RW.out]⟩
        ·have HE:Hid (d2=fixUp lt hi i2 d2):=by show _=_;unfold fixUp;rw[if_neg hu]
         go_wp2;go_roundg (5 - (jj+1))
         case measure=>omega
         case rel=>exact⟨i2,jj+1,fixUp lt hi i2 d2,by omega,rfl,rfl,by go_num,by omega,by omega,HE.out▸PP.out,by rw[← HR.out,RW.out]⟩
      ·have RW:Hid (fixDown lt lo i2 d1=d1):=by show _=_;unfold fixDown;rw[if_neg hd]
       by_cases hu:2<=hi - i2
       ·have Xn:decide (2<=(hi:Int) - (i2:Int))=true:=decide_eq_true zo
        have T8:Hid (fixUp lt hi i2 d1=shiftUp lt hi (i2+1) d1):=by show _=_;unfold fixUp;rw[if_pos hu]
        go_upto_block 6 with fail
        try simp only[RV,Xn,Xl]
        go_wp2_with fail;go_loopw [10] (λvv wx=>∃(j:Nat) (dj:Array α),vv = .int .i64 j/\i2<j/\j<=hi/\bl A b lb sb g sf 242 W W.heap.size wx dj/\shiftUp lt hi j dj=shiftUp lt hi (i2+1) d1) (λvv _=>hi - (intOf vv).toNat)
        case atStart=>exact⟨i2+1,d1,by go_num,by omega,by omega,SE.out,rfl⟩
        case round =>
         obtain⟨j,dj,rfl,h1,h2,gA,hsc⟩:=hrel;have HX:=hid gA;have HS:=hid hsc;have c0:=gA.c0;clear gA hsc SE;by_cases hle:j<hi
         ·have hl:=K.less j (j - 1) HX.out.row zo zo;rw[show((j - 1:Nat):Int)=(j:Int) - 1 by omega]at hl
          cases hlv:lt dj[j]! dj[j - 1]! with
          | true =>
           rw[hlv]at hl
           go_wp2_with (go_at_fn g;refine hl.mono ?_;rintro e w' ⟨rfl,hb⟩;have HY:=hid (HX.out.next K hb);have c1:=HY.out.c1;clear hb c0)
           obtain⟨W',hs,ha,a_⟩:=K.swap j (j - 1) HY.out.row zo zo
           rw[show((j - 1:Nat):Int)=(j:Int) - 1 by omega]at hs
           rw[hs,Oper.upon_value]
           have HZ:=hid (HY.out.turn ha a_)
           clear hl hs ha a_ c1
           go_wp2
           go_roundw
           case rel=>exact⟨j+1,swp dj j (j - 1),by go_num,by omega,by omega,HZ.out,(shiftUp_go hle hlv).symm.trans HS.out⟩
           case measure=>simp[intOf];omega
          | false =>
           rw[hlv]at hl
           have HE:Hid (dj=fixUp lt hi i2 d1):=((shiftUp_stop (.inr hlv)).symm.trans HS.out).trans T8.out.symm
           go_wp2_with (go_at_fn g;refine hl.mono ?_;rintro e w' ⟨rfl,hb⟩;have HY:=hid (HX.out.next K hb);clear hb c0)
           go_roundg (5 - (jj+1))
           case measure=>omega
           case rel=>exact⟨i2,jj+1,dj,by omega,rfl,rfl,by go_num,by omega,by omega,HY.out,by rw[HE.out,← HR.out,RW.out]⟩
         ·have HE:Hid (dj=fixUp lt hi i2 d1):=((shiftUp_stop (.inl hle)).symm.trans HS.out).trans T8.out.symm;go_wp2;go_roundg (5 - (jj+1))
          case measure=>omega
          case rel=>exact⟨i2,jj+1,dj,by omega,rfl,rfl,by go_num,by omega,by omega,HX.out,by rw[HE.out,← HR.out,RW.out]⟩
       ·omega
  ·obtain rfl:jj=5:=zo;have hq:=CH.out;go_wp2;go_ret;rw[← hq];exact⟨rfl,HK.out.row,HK.out.bar⟩
end
end So
end Go.Proofs.YtbhnbcadgmagpaaGreatDoor
namespace Go.Proofs.YtbhnbcadgmagpaaGreatDoor
open Go.ChangeShapes Go.WideShapes Go.ChangeAt Go.RowKit Go.aN Go.Lib
namespace So
open Go.Sort (swp scanUp scanDown partLoop partEqLoop partition partitionEqual partLoop_eq partEqLoop_eq)
section
variable {α:Type}[Inhabited α]{A:World->Array α->Prop}{b m n:Nat}{lt:α->α->Bool}{g:Nat}{lb:Array Value}{sf:Nat}{sb:Array Value}{W:World}{d:Array α}
theorem pb(K:VA Tryz.prog A b m n lt g lb sf sb)(h:A W d)(lo hi pivot:Nat)(hlp:lo<=pivot)(hph:pivot<hi)(hhi:hi<=n) :
  Calls Tryz.prog 241 #[.agg #[.func (.func g) #[] lb,.func (.func sf) #[] sb],.int .i64 lo,.int .i64 hi,.int .i64 pivot] W λe w'=>e = .returned (.int .i64 ((partitionEqual lt d lo hi pivot).1:Nat))/\A w' (partitionEqual lt d lo hi pivot).2/\iG b W w':=by
 have qV:=bl.start K h 242
 have hsm:=K.small
 have eg:=K.enters
 have c1:=qV.c1
 obtain⟨W1,hs,ha,a_⟩:=K.swap lo pivot qV.row zo zo
 have HB:=hid (qV.turn ha a_)
 clear h qV ha a_
 obtain⟨d0,hd0⟩:∃d0,d0=swp d lo pivot:=⟨_,rfl⟩
 rw[← hd0]at HB
 go_in
 go_wp2
 clear hs c1
 go_loopg [9,10] (hi - lo) (λgg vi vj wr=>∃(i j:Nat) (dk:Array α),j+1 - i<=gg/\vi = .int .i64 i/\vj = .int .i64 j/\lo<i/\i<=j+1/\j<hi/\bl A b lb sb g sf 242 W W.heap.size wr dk/\partEqLoop lt lo i j dk=partEqLoop lt lo (lo+1) (hi - 1) d0) 
 case atStart=>exact⟨lo+1,hi - 1,d0,by omega,by go_num,by congr 1;omega,by omega,by omega,by omega,HB.out,rfl⟩
 case round =>
  obtain⟨i,j,dk,YY,rfl,rfl,hli,hij,hjh,FD,hE⟩:=hrel;have HK:=hid FD;have CH:=hid hE;clear HB FD hE;go_upto_block 2 with fail;go_cut [9] (λvv wx=>∃i2:Nat,vv = .int .i64 i2/\i<=i2/\i2<=j+1/\bl A b lb sb g sf 242 W W.heap.size wx dk/\scanUp (λx=>!lt dk[lo]! x) dk j i=i2/\(i2<=j->lt dk[lo]! dk[i2]! = true))
  case first =>
   go_wp2_with fail;go_loopw [9] (λvv wx=>∃i2:Nat,vv = .int .i64 i2/\i<=i2/\i2<=j+1/\bl A b lb sb g sf 242 W W.heap.size wx dk/\scanUp (λx=>!lt dk[lo]! x) dk j i2=scanUp (λx=>!lt dk[lo]! x) dk j i) (λvv _=>j+1 - (intOf vv).toNat)
   case atStart=>exact⟨i,by go_num,by omega,by omega,HK.out,rfl⟩
   case round =>
    obtain⟨i2,rfl,h1,h2,gA,hsc⟩:=hrel;have HX:=hid gA;have HS:=hid hsc;have c0:=gA.c0;clear gA hsc HK;by_cases hle:i2<=j
    ·have hl:=K.less lo i2 HX.out.row zo zo
     cases hlv:lt dk[lo]! dk[i2]! with
     | false =>
      rw[hlv]at hl
      go_wp2_with (go_at_fn g;refine hl.mono ?_;rintro e w' ⟨rfl,hb⟩;have HY:=hid (HX.out.next K hb);clear hb c0)
      go_roundw
      case rel=>exact⟨i2+1,by go_num,by omega,by omega,HY.out,(scanUp_go (λx=>!lt dk[lo]! x) dk j i2 hle (by simp[hlv])).symm.trans HS.out⟩
      case measure=>simp[intOf];omega
     | true =>
      rw[hlv]at hl
      go_wp2_with (go_at_fn g;refine hl.mono ?_;rintro e w' ⟨rfl,hb⟩;have HY:=hid (HX.out.next K hb);clear hb c0)
      go_meet
      exact⟨i2,rfl,by omega,by omega,HY.out,HS.out.symm.trans (scanUp_end (λx=>!lt dk[lo]! x) dk j i2 (Or.inr (by simp[hlv]))),λ_=>hlv⟩
    ·go_wp2;go_meet;exact⟨i2,rfl,by omega,by omega,HX.out,HS.out.symm.trans (scanUp_end (λx=>!lt dk[lo]! x) dk j i2 (Or.inl hle)),λh=>absurd h hle⟩
  case rest =>
   obtain⟨i2,rfl,h1U,h2U,gA,hsc,zm⟩:=hcut;have T9:=hid hsc;have U5:Hid (i2<=j->lt dk[lo]! dk[i2]! = true):=zm;have RX:=hid gA;clear gA hsc zm HK;go_upto_block 4 with fail;go_cut [10] (λvv wx=>∃j2:Nat,vv = .int .i64 j2/\j2<=j/\i2<=j2+1/\bl A b lb sb g sf 242 W W.heap.size wx dk/\scanDown (λx=>lt dk[lo]! x) dk i2 j=j2/\(i2<=j2->lt dk[lo]! dk[j2]! = false))
   case first =>
    go_wp2_with fail;go_loopw [10] (λvv wx=>∃j2:Nat,vv = .int .i64 j2/\j2<=j/\i2<=j2+1/\bl A b lb sb g sf 242 W W.heap.size wx dk/\scanDown (λx=>lt dk[lo]! x) dk i2 j2=scanDown (λx=>lt dk[lo]! x) dk i2 j) (λvv _=>(intOf vv).toNat)
    case atStart=>exact⟨j,by go_num,by omega,by omega,RX.out,rfl⟩
    case round =>
     obtain⟨j2,rfl,h1,h2,gA,hsc⟩:=hrel;have HX:=hid gA;have HS:=hid hsc;have c0:=gA.c0;clear gA hsc RX;by_cases hle:i2<=j2
     ·have hl:=K.less lo j2 HX.out.row zo zo
      cases hlv:lt dk[lo]! dk[j2]! with
      | true =>
       rw[hlv]at hl
       go_wp2_with (go_at_fn g;refine hl.mono ?_;rintro e w' ⟨rfl,hb⟩;have HY:=hid (HX.out.next K hb);clear hb c0)
       go_roundw
       case rel=>exact⟨j2 - 1,by congr 1;omega,by omega,by omega,HY.out,(scanDown_go (λx=>lt dk[lo]! x) dk i2 j2 hle zo (by simp[hlv])).symm.trans HS.out⟩
       case measure=>simp[intOf];omega
      | false =>
       rw[hlv]at hl
       go_wp2_with (go_at_fn g;refine hl.mono ?_;rintro e w' ⟨rfl,hb⟩;have HY:=hid (HX.out.next K hb);clear hb c0)
       go_meet
       exact⟨j2,rfl,by omega,by omega,HY.out,HS.out.symm.trans (scanDown_end (λx=>lt dk[lo]! x) dk i2 j2 (Or.inr (by simp[hlv]))),λ_=>hlv⟩
     ·go_wp2;go_meet;exact⟨j2,rfl,by omega,by omega,HX.out,HS.out.symm.trans (scanDown_end (λx=>lt dk[lo]! x) dk i2 j2 (Or.inl hle)),λh=>absurd h hle⟩
   case rest =>
    obtain⟨j2,rfl,h1D,h2D,gA,hsc,zm⟩:=hcut;have T_:=hid hsc;have U6:Hid (i2<=j2->lt dk[lo]! dk[j2]! = false):=zm;have I_:=hid gA;clear gA hsc zm RX;by_cases hgt:i2>j2
    ·go_wp2;go_ret;have hp:=partEqLoop_eq lt lo i j dk;rw[T9.out,T_.out,if_pos hgt]at hp;have he:=CH.out;rw[hp]at he;unfold partitionEqual;rw[← hd0,← he];exact⟨rfl,I_.out.row,I_.out.bar⟩
    ·have hne:i2<=j2->i2≠j2:=λhle e=>by
      subst e;have h1:=U5.out zo;have h2:=U6.out zl
      rw[h1]at h2;cases h2
     have hle:i2<j2:=by have:=hne zo;omega
     have c1:=I_.out.c1;obtain⟨W2,hs,ha,a_⟩:=K.swap i2 j2 I_.out.row zo zo;have HZ:=hid (I_.out.turn ha a_)
     have Fj:Hid (partEqLoop lt lo (i2+1) (j2 - 1) (swp dk i2 j2)=partEqLoop lt lo (lo+1) (hi - 1) d0):=by
      show _=_;have hp:=partEqLoop_eq lt lo i j dk;rw[T9.out,T_.out,if_neg hgt]at hp;rw[← CH.out,hp]
     clear ha a_;go_wp2;go_roundg (j2 - 1+1 - (i2+1))
     case rel=>exact⟨i2+1,j2 - 1,swp dk i2 j2,Nat.le_refl _,by go_num,by congr 1;omega,by omega,by omega,by omega,HZ.out,Fj.out⟩
     case measure=>omega
end
end So
end Go.Proofs.YtbhnbcadgmagpaaGreatDoor
namespace Go.Proofs.YtbhnbcadgmagpaaGreatDoor
open Go.ChangeShapes Go.WideShapes Go.ChangeAt Go.RowKit Go.aN Go.Lib
namespace So
open Go.Sort (swp scanUp scanDown partLoop partEqLoop partition partitionEqual partLoop_eq partEqLoop_eq)
section
variable {α:Type}[Inhabited α]{A:World->Array α->Prop}{b m n:Nat}{lt:α->α->Bool}{g:Nat}{lb:Array Value}{sf:Nat}{sb:Array Value}{W:World}{d:Array α}
theorem wK(K:VA Tryz.prog A b m n lt g lb sf sb)(h:A W d)(lo hi pivot:Nat)(hlp:lo<=pivot)(hph:pivot<hi)(hhi:hi<=n) :
  Calls Tryz.prog 242 #[.agg #[.func (.func g) #[] lb,.func (.func sf) #[] sb],.int .i64 lo,.int .i64 hi,.int .i64 pivot] W λe w'=>e = .returned (.tuple #[.int .i64 ((partition lt d lo hi pivot).1:Nat),.bool (partition lt d lo hi pivot).2.1])/\A w' (partition lt d lo hi pivot).2.2/\iG b W w':=by
 have qV:=bl.start K h 242
 have hsm:=K.small
 have eg:=K.enters
 have c1:=qV.c1
 obtain⟨W1,hs,ha,a_⟩:=K.swap lo pivot qV.row zo zo
 have HB:=hid (qV.turn ha a_)
 clear h qV ha a_
 obtain⟨d0,hd0⟩:∃d0,d0=swp d lo pivot:=⟨_,rfl⟩
 rw[← hd0]at HB
 have hI0:lo+1<=hi - 1+1:=zo
 go_in
 go_upto_block 0 with fail
 go_cut [10] (λvv wx=>∃i2:Nat,vv = .int .i64 i2/\(lo+1)<=i2/\i2<=(hi - 1)+1/\bl A b lb sb g sf 242 W W.heap.size wx d0/\scanUp (λx=>lt x d0[lo]!) d0 (hi - 1) (lo+1)=i2/\(i2<=(hi - 1)->lt d0[i2]! d0[lo]! = false))
 case first =>
  go_wp2_with fail;go_loopw [10] (λvv wx=>∃i2:Nat,vv = .int .i64 i2/\(lo+1)<=i2/\i2<=(hi - 1)+1/\bl A b lb sb g sf 242 W W.heap.size wx d0/\scanUp (λx=>lt x d0[lo]!) d0 (hi - 1) i2=scanUp (λx=>lt x d0[lo]!) d0 (hi - 1) (lo+1)) (λvv _=>(hi - 1)+1 - (intOf vv).toNat)
  case atStart=>exact⟨(lo+1),by go_num,by omega,by omega,HB.out,rfl⟩
  case round =>
   obtain⟨i2,rfl,h1,h2,gA,hsc⟩:=hrel;have HX:=hid gA;have HS:=hid hsc;have c0:=gA.c0;clear gA hsc HB;by_cases hle:i2<=(hi - 1)
   ·have hl:=K.less i2 lo HX.out.row zo zo
    cases hlv:lt d0[i2]! d0[lo]! with
    | true =>
     rw[hlv]at hl
     go_wp2_with (go_at_fn g;refine hl.mono ?_;rintro e w' ⟨rfl,hb⟩;have HY:=hid (HX.out.next K hb);clear hb c0)
     go_roundw
     case rel=>exact⟨i2+1,by go_num,by omega,by omega,HY.out,(scanUp_go (λx=>lt x d0[lo]!) d0 (hi - 1) i2 hle (by simp[hlv])).symm.trans HS.out⟩
     case measure=>simp[intOf];omega
    | false =>
     rw[hlv]at hl
     go_wp2_with (go_at_fn g;refine hl.mono ?_;rintro e w' ⟨rfl,hb⟩;have HY:=hid (HX.out.next K hb);clear hb c0)
     go_meet
     exact⟨i2,rfl,by omega,by omega,HY.out,HS.out.symm.trans (scanUp_end (λx=>lt x d0[lo]!) d0 (hi - 1) i2 (Or.inr (by simp[hlv]))),λ_=>hlv⟩
   ·go_wp2;go_meet;exact⟨i2,rfl,by omega,by omega,HX.out,HS.out.symm.trans (scanUp_end (λx=>lt x d0[lo]!) d0 (hi - 1) i2 (Or.inl hle)),λh=>absurd h hle⟩
 case rest =>
  obtain⟨i2,rfl,h1U,h2U,gA,hsc,zm⟩:=hcut;have T9:=hid hsc;have U5:Hid (i2<=(hi - 1)->lt d0[i2]! d0[lo]! = false):=zm;have RX:=hid gA;clear gA hsc zm HB;go_upto_block 2 with fail;go_cut [11] (λvv wx=>∃j2:Nat,vv = .int .i64 j2/\j2<=(hi - 1)/\i2<=j2+1/\bl A b lb sb g sf 242 W W.heap.size wx d0/\scanDown (λx=>!lt x d0[lo]!) d0 i2 (hi - 1)=j2/\(i2<=j2->lt d0[j2]! d0[lo]! = true))
  case first =>
   go_wp2_with fail;go_loopw [11] (λvv wx=>∃j2:Nat,vv = .int .i64 j2/\j2<=(hi - 1)/\i2<=j2+1/\bl A b lb sb g sf 242 W W.heap.size wx d0/\scanDown (λx=>!lt x d0[lo]!) d0 i2 j2=scanDown (λx=>!lt x d0[lo]!) d0 i2 (hi - 1)) (λvv _=>(intOf vv).toNat)
   case atStart=>exact⟨(hi - 1),by go_num,by omega,by omega,RX.out,rfl⟩
   case round =>
    obtain⟨j2,rfl,h1,h2,gA,hsc⟩:=hrel;have HX:=hid gA;have HS:=hid hsc;have c0:=gA.c0;clear gA hsc RX;by_cases hle:i2<=j2
    ·have hl:=K.less j2 lo HX.out.row zo zo
     cases hlv:lt d0[j2]! d0[lo]! with
     | false =>
      rw[hlv]at hl
      go_wp2_with (go_at_fn g;refine hl.mono ?_;rintro e w' ⟨rfl,hb⟩;have HY:=hid (HX.out.next K hb);clear hb c0)
      go_roundw
      case rel=>exact⟨j2 - 1,by congr 1;omega,by omega,by omega,HY.out,(scanDown_go (λx=>!lt x d0[lo]!) d0 i2 j2 hle zo (by simp[hlv])).symm.trans HS.out⟩
      case measure=>simp[intOf];omega
     | true =>
      rw[hlv]at hl
      go_wp2_with (go_at_fn g;refine hl.mono ?_;rintro e w' ⟨rfl,hb⟩;have HY:=hid (HX.out.next K hb);clear hb c0)
      go_meet
      exact⟨j2,rfl,by omega,by omega,HY.out,HS.out.symm.trans (scanDown_end (λx=>!lt x d0[lo]!) d0 i2 j2 (Or.inr (by simp[hlv]))),λ_=>hlv⟩
    ·go_wp2;go_meet;exact⟨j2,rfl,by omega,by omega,HX.out,HS.out.symm.trans (scanDown_end (λx=>!lt x d0[lo]!) d0 i2 j2 (Or.inl hle)),λh=>absurd h hle⟩
  case rest =>
   obtain⟨j2,rfl,h1D,h2D,gA,hsc,zm⟩:=hcut;have T_:=hid hsc;have U6:Hid (i2<=j2->lt d0[j2]! d0[lo]! = true):=zm;have I_:=hid gA;clear gA hsc zm RX;by_cases hgt:i2>j2
   ·have c1:=I_.out.c1;obtain⟨W9,hs,ha,a_⟩:=K.swap j2 lo I_.out.row zo zo;have HZ:=hid (I_.out.turn ha a_);clear ha a_;go_wp2;go_ret2
    have he:partition lt d lo hi pivot=(j2,true,swp d0 j2 lo):=by
     unfold partition;simp only[← hd0,T9.out,T_.out,if_pos hgt]
    rw[he];exact⟨rfl,HZ.out.row,HZ.out.bar⟩
   ·have hne:i2<=j2->i2≠j2:=λhle e=>by
     subst e;have h1:=U5.out zo;have h2:=U6.out zl
     rw[h1]at h2;cases h2
    have hle:i2<j2:=by have:=hne zo;omega
    have c1:=I_.out.c1;obtain⟨W2,hs,ha,a_⟩:=K.swap i2 j2 I_.out.row zo zo;have HZ:=hid (I_.out.turn ha a_);clear ha a_ hne U5 U6;go_wp2;clear hs c1;go_loopg [10,11] (hi - lo) (λgg vi vj wr=>∃(ii jj:Nat) (dk:Array α),jj+1 - ii<=gg/\vi = .int .i64 ii/\vj = .int .i64 jj/\lo<ii/\ii<=jj+1/\jj<hi/\bl A b lb sb g sf 242 W W.heap.size wr dk/\partLoop lt lo ii jj dk=partLoop lt lo (i2+1) (j2 - 1) (swp d0 i2 j2))
    case atStart=>exact⟨i2+1,j2 - 1,swp d0 i2 j2,by omega,by go_num,by congr 1;omega,by omega,by omega,by omega,HZ.out,rfl⟩
    case round =>
     obtain⟨ii,jj,dk,YY,rfl,rfl,aac,hij2,aad,FD,hE⟩:=hrel;have HK:=hid FD;have CH:=hid hE;clear HZ FD hE;go_upto_block 6 with fail;go_cut [10] (λvv wx=>∃jL:Nat,vv = .int .i64 jL/\ii<=jL/\jL<=jj+1/\bl A b lb sb g sf 242 W W.heap.size wx dk/\scanUp (λx=>lt x dk[lo]!) dk jj ii=jL/\(jL<=jj->lt dk[jL]! dk[lo]! = false))
     case first =>
      go_wp2_with fail;go_loopw [10] (λvv wx=>∃jL:Nat,vv = .int .i64 jL/\ii<=jL/\jL<=jj+1/\bl A b lb sb g sf 242 W W.heap.size wx dk/\scanUp (λx=>lt x dk[lo]!) dk jj jL=scanUp (λx=>lt x dk[lo]!) dk jj ii) (λvv _=>jj+1 - (intOf vv).toNat)
      case atStart=>exact⟨ii,by go_num,by omega,by omega,HK.out,rfl⟩
      case round =>
       obtain⟨jL,rfl,h1,h2,gA,hsc⟩:=hrel;have HX:=hid gA;have HS:=hid hsc;have c0:=gA.c0;clear gA hsc HK;by_cases hle:jL<=jj
       ·have hl:=K.less jL lo HX.out.row zo zo
        cases hlv:lt dk[jL]! dk[lo]! with
        | true =>
         rw[hlv]at hl
         go_wp2_with (go_at_fn g;refine hl.mono ?_;rintro e w' ⟨rfl,hb⟩;have HY:=hid (HX.out.next K hb);clear hb c0)
         go_roundw
         case rel=>exact⟨jL+1,by go_num,by omega,by omega,HY.out,(scanUp_go (λx=>lt x dk[lo]!) dk jj jL hle (by simp[hlv])).symm.trans HS.out⟩
         case measure=>simp[intOf];omega
        | false =>
         rw[hlv]at hl
         go_wp2_with (go_at_fn g;refine hl.mono ?_;rintro e w' ⟨rfl,hb⟩;have HY:=hid (HX.out.next K hb);clear hb c0)
         go_meet
         exact⟨jL,rfl,by omega,by omega,HY.out,HS.out.symm.trans (scanUp_end (λx=>lt x dk[lo]!) dk jj jL (Or.inr (by simp[hlv]))),λ_=>hlv⟩
       ·go_wp2;go_meet;exact⟨jL,rfl,by omega,by omega,HX.out,HS.out.symm.trans (scanUp_end (λx=>lt x dk[lo]!) dk jj jL (Or.inl hle)),λh=>absurd h hle⟩
     case rest =>
      obtain⟨jL,rfl,aae,aaf,gA,hsc,zm⟩:=hcut;have Ua:=hid hsc;have Xo:Hid (jL<=jj->lt dk[jL]! dk[lo]! = false):=zm;have RY:=hid gA;clear gA hsc zm HK;go_upto_block 8 with fail;go_cut [11] (λvv wx=>∃l9:Nat,vv = .int .i64 l9/\l9<=jj/\jL<=l9+1/\bl A b lb sb g sf 242 W W.heap.size wx dk/\scanDown (λx=>!lt x dk[lo]!) dk jL jj=l9/\(jL<=l9->lt dk[l9]! dk[lo]! = true))
      case first =>
       go_wp2_with fail;go_loopw [11] (λvv wx=>∃l9:Nat,vv = .int .i64 l9/\l9<=jj/\jL<=l9+1/\bl A b lb sb g sf 242 W W.heap.size wx dk/\scanDown (λx=>!lt x dk[lo]!) dk jL l9=scanDown (λx=>!lt x dk[lo]!) dk jL jj) (λvv _=>(intOf vv).toNat)
       case atStart=>exact⟨jj,by go_num,by omega,by omega,RY.out,rfl⟩
       case round =>
        obtain⟨l9,rfl,h1,h2,gA,hsc⟩:=hrel;have HX:=hid gA;have HS:=hid hsc;have c0:=gA.c0;clear gA hsc RY;by_cases hle:jL<=l9
        ·have hl:=K.less l9 lo HX.out.row zo zo
         cases hlv:lt dk[l9]! dk[lo]! with
         | false =>
          rw[hlv]at hl
          go_wp2_with (go_at_fn g;refine hl.mono ?_;rintro e w' ⟨rfl,hb⟩;have HY:=hid (HX.out.next K hb);clear hb c0)
          go_roundw
          case rel=>exact⟨l9 - 1,by congr 1;omega,by omega,by omega,HY.out,(scanDown_go (λx=>!lt x dk[lo]!) dk jL l9 hle zo (by simp[hlv])).symm.trans HS.out⟩
          case measure=>simp[intOf];omega
         | true =>
          rw[hlv]at hl
          go_wp2_with (go_at_fn g;refine hl.mono ?_;rintro e w' ⟨rfl,hb⟩;have HY:=hid (HX.out.next K hb);clear hb c0)
          go_meet
          exact⟨l9,rfl,by omega,by omega,HY.out,HS.out.symm.trans (scanDown_end (λx=>!lt x dk[lo]!) dk jL l9 (Or.inr (by simp[hlv]))),λ_=>hlv⟩
        ·go_wp2;go_meet;exact⟨l9,rfl,by omega,by omega,HX.out,HS.out.symm.trans (scanDown_end (λx=>!lt x dk[lo]!) dk jL l9 (Or.inl hle)),λh=>absurd h hle⟩
      case rest =>
       obtain⟨l9,rfl,aag,aah,gA,hsc,zm⟩:=hcut;have Ub:=hid hsc;have Xp:Hid (jL<=l9->lt dk[l9]! dk[lo]! = true):=zm;have IP:=hid gA;clear gA hsc zm RY;by_cases Uc:jL>l9
       ·have c1:=IP.out.c1;obtain⟨W9,hs,ha,a_⟩:=K.swap l9 lo IP.out.row zo zo;have HZ:=hid (IP.out.turn ha a_);clear ha a_;go_wp2;go_ret2
        have he:partition lt d lo hi pivot=(l9,false,swp dk l9 lo):=by
         have hp:=partLoop_eq lt lo ii jj dk;rw[Ua.out,Ub.out,if_pos Uc]at hp;have hq:=CH.out;rw[hp]at hq;unfold partition;simp only[← hd0,T9.out,T_.out,if_neg hgt];rw[← hq]
        rw[he];exact⟨rfl,HZ.out.row,HZ.out.bar⟩
       ·have hne:jL<=l9->jL≠l9:=λhle e=>by
         subst e;have h1:=Xo.out zo;have h2:=Xp.out zl
         rw[h1]at h2;cases h2
        have hle:jL<l9:=by have:=hne zo;omega
        have c1:=IP.out.c1;obtain⟨W2,hs,ha,a_⟩:=K.swap jL l9 IP.out.row zo zo;have HZ:=hid (IP.out.turn ha a_)
        have Fj:Hid (partLoop lt lo (jL+1) (l9 - 1) (swp dk jL l9)=partLoop lt lo (i2+1) (j2 - 1) (swp d0 i2 j2)):=by
         show _=_;have hp:=partLoop_eq lt lo ii jj dk;rw[Ua.out,Ub.out,if_neg Uc]at hp;rw[← CH.out,hp]
        clear ha a_;go_wp2;go_roundg (l9 - 1+1 - (jL+1))
        case rel=>exact⟨jL+1,l9 - 1,swp dk jL l9,Nat.le_refl _,by go_num,by congr 1;omega,by omega,by omega,by omega,HZ.out,Fj.out⟩
        case measure=>omega
end
end So
end Go.Proofs.YtbhnbcadgmagpaaGreatDoor
namespace Go.Proofs.YtbhnbcadgmagpaaGreatDoor
open Go.ChangeShapes Go.WideShapes Go.ChangeAt Go.RowKit Go.aN Go.Lib
namespace So
open Go.Sort (SWO Hint pdq hintCode insertionSort heapSort breakPatterns reverseRange partialInsertionSort choosePivot partition partitionEqual)
section
variable {α:Type}[Inhabited α]{A:World->Array α->Prop}{b m n:Nat}{lt:α->α->Bool}{g:Nat}{lb:Array Value}{sf:Nat}{sb:Array Value}{W:World}{d:Array α}
structure Qk(A:World->Array α->Prop)(b n:Nat)(lb sb:Array Value)(g sf:Nat):Prop where
 brk:∀{W d} (lo hi:Nat),A W d->lo<=hi->hi<=n->Calls Tryz.prog 237 #[.agg #[.func (.func g) #[] lb,.func (.func sf) #[] sb],.int .i64 lo,.int .i64 hi] W λe w'=>e = .returned (.tuple #[])/\A w' (breakPatterns d lo hi)/\iG b W w'
 rev:∀{W d} (lo hi:Nat),A W d->lo<=hi->hi<=n->Calls Tryz.prog 239 #[.agg #[.func (.func g) #[] lb,.func (.func sf) #[] sb],.int .i64 lo,.int .i64 hi] W λe w'=>e = .returned (.tuple #[])/\A w' (reverseRange d lo hi)/\iG b W w'
theorem MB{h:Hint}(e:hintCode h=2):h = .decreasing:=by cases h <;> simp[hintCode]at e ⊢
theorem Ql{x y p q:Nat}(h1:q<=p)(h2:y<=x):decide (((x:Int) - (y:Int)) / 8<=(p:Int) - (q:Int))=decide (p - q>=(x - y) / 8):=by
 refine decide_eq_decide.2 ?_;omega
theorem Pf(S:SWO lt)(K:VA Tryz.prog A b m n lt g lb sf sb)(BL:Qk A b n lb sb g sf):∀(N:Nat) (W:World) (d:Array α) (lo hi limit:Nat),hi - lo<N->A W d->lo<=hi->hi<=n->limit<4611686018427387904->Sort.Below lt lo hi d →
  Calls Tryz.prog 180 #[.agg #[.func (.func g) #[] lb,.func (.func sf) #[] sb],.int .i64 lo,.int .i64 hi,.int .i64 limit] W λe w'=>e = .returned (.tuple #[])/\A w' (pdq lt d lo hi limit true true)/\iG b W w':=by
 intro N
 induction N with
 | zero=>intro _ _ _ _ _ h;exact absurd h (Nat.not_lt_zero _)
 | succ N ih =>
  intro W d lo hi limit hN h hlh hhi hlim Ue
  have HB:=hid (bl.start K h 242)
  have hsm:=K.small
  have eg:=K.enters
  have IH:=hid ih
  have qV:=hid Ue
  clear h ih Ue
  go_in
  go_wp2
  go_loopg [1,2,3,8,9] (hi - lo) (λk s1 s2 s3 s8 s9 wr=>∃(a e lim:Nat) (wb wp:Bool) (dk:Array α),s1 = .int .i64 a/\s2 = .int .i64 e/\s3 = .int .i64 lim/\s8 = .bool wb/\s9 = .bool wp ∧
   a<=e/\e<=n/\e - a<=k/\k<=hi - lo/\lim<=limit/\Sort.Below lt a e dk/\bl A b lb sb g sf 242 W W.heap.size wr dk/\pdq lt dk a e lim wb wp=pdq lt d lo hi limit true true)
  case atStart=>exact⟨lo,hi,limit,true,true,d,rfl,rfl,rfl,rfl,rfl,hlh,hhi,Nat.le_refl _,Nat.le_refl _,Nat.le_refl _,qV.out,HB.out,rfl⟩
  case round =>
   obtain⟨a,e,lim,wb,wp,dk,rfl,rfl,rfl,rfl,rfl,U7,iS,hk,hkN,PS,YZ,FD,heq⟩:=hrel;have HK:=hid FD;have CH:=hid heq;have Od:=hid YZ;have hds:dk.size=n:=K.size FD.row;have c0:=FD.c0;have c1:=FD.c1;clear HB qV FD heq YZ;by_cases h12:e - a<=12
   ·have h12z:(e:Int) - (a:Int)<=12:=zo;have hc:=wJ K HK.out.row a e U7 iS;go_wp2_with (go_at_call 235;refine hc.mono ?_;rintro e1 w1 ⟨rfl,ha,a_⟩)
    (try simp only[Exit.inBlock,Exit.then]);refine bodyPost_ret (results_none rfl _ _ _) rfl ?_
    exact⟨rfl,by rw[← CH.out,Sort.pdq_small h12];exact ha,HK.out.bar.trans a_⟩
   ·have h12z : ¬((e:Int) - (a:Int)<=12):=zo;by_cases hl0:lim=0
    ·subst hl0;have hc:=zK K HK.out.row a e U7 iS;go_wp2_with (go_at_call 236;refine hc.mono ?_;rintro e1 w1 ⟨rfl,ha,a_⟩)
     (try simp only[Exit.inBlock,Exit.then]);refine bodyPost_ret (results_none rfl _ _ _) rfl ?_
     exact⟨rfl,by rw[← CH.out,Sort.pdq_heap h12 rfl];exact ha,HK.out.bar.trans a_⟩
    ·have hl0z : ¬((lim:Int)=0):=zo;obtain⟨s1,B1,hc1,s2,B2,hpv,s3,B3⟩:=Sort.rd_facts (limit:=lim) (wb:=wb) (wp:=wp) S Sort.partialInsertionSort_holds Sort.reverseRange_holds (show a<e by omega) (show e<=dk.size by omega) Od.out;have fF:=hid B3;clear B1 B2 B3 s1 s2;go_upto_if 35 with fail;go_cut [3] (λs3 wc=>s3 = .int .i64 ((Sort.rd lt dk a e lim wb wp).lim:Nat)/\bl A b lb sb g sf 242 W W.heap.size wc (Sort.rd lt dk a e lim wb wp).d1)
     case first =>
      cases wb
      ·have hc:=BL.brk a e HK.out.row U7 iS;go_wp2_with (go_at_call 237;refine hc.mono ?_;rintro e1 w1 ⟨rfl,ha,a_⟩);go_meet
       case rel =>
        refine⟨?_,HK.out.turn ha a_⟩;show Value.int .i64 ((lim:Int) - 1)=Value.int .i64 ((lim - 1:Nat):Int);congr 1;omega
      ·go_wp2_with fail;go_meet
       case rel=>exact⟨rfl,HK.out⟩
     case rest =>
      obtain⟨rfl,Y4⟩:=hcut;have gR:=hid Y4;clear Y4 c0 c1;have c0:=gR.out.c0;have c1:=gR.out.c1;have Uf:=tj K gR.out.row a e (Sort.rd lt dk a e lim wb wp).c.1 (Sort.rd lt dk a e lim wb wp).c.2 zo iS rfl;go_upto_if 50 with(go_at_call 238;refine Uf.mono ?_;rintro e2 w2 ⟨rfl,aZ⟩);have iu:=hid (gR.out.next K aZ);clear aZ c0 c1 Uf;have c0:=iu.out.c0;have c1:=iu.out.c1;go_cut [11,12] (λs11 Xq wc=>s11 = .int .i64 ((Sort.rd lt dk a e lim wb wp).pivot:Nat)/\Xq = .int .i64 (hintCode (Sort.rd lt dk a e lim wb wp).hint)/\bl A b lb sb g sf 242 W W.heap.size wc (Sort.rd lt dk a e lim wb wp).d2)
      case first =>
       by_cases hh:(Sort.rd lt dk a e lim wb wp).c.2 = .decreasing
       ·have Ug:hintCode (Sort.rd lt dk a e lim wb wp).c.2=2:=by rw[hh];rfl
        obtain⟨e2,epv,Xr⟩:=Sort.rd_dec hh;have Xt:=BL.rev a e iu.out.row U7 iS;go_wp2_with (go_at_call 239;refine Xt.mono ?_;rintro e3 w3 ⟨rfl,ha,a_⟩);go_meet
        case rel =>
         refine⟨?_,by rw[Xr];rfl,by rw[e2];exact iu.out.turn ha a_⟩;rw[epv];congr 1;omega
       ·have Ug : ¬(hintCode (Sort.rd lt dk a e lim wb wp).c.2=2):=λh=>hh (MB h);obtain⟨e2,epv,Xr⟩:=Sort.rd_not hh;go_wp2_with fail;go_meet
        case rel=>exact⟨by rw[epv],by rw[Xr],by rw[e2];exact iu.out⟩
      case rest =>
       obtain⟨rfl,rfl,U3⟩:=hcut;have k9:=hid U3;clear U3 c0 c1;have c0:=k9.out.c0;have c1:=k9.out.c1;go_upto_region 16 with fail;go_cut [12,68] (λXq s68 wx=>Xq = .int .i64 (hintCode (Sort.rd lt dk a e lim wb wp).hint)/\s68 = .bool (wb&&wp&&decide ((Sort.rd lt dk a e lim wb wp).hint = .increasing))/\wx=wc)
       case first =>
        cases wb <;> cases wp <;> cases Xu:(Sort.rd lt dk a e lim _ _).hint <;>
         (
           have RZ:=congrArg hintCode Xu
           simp only[hintCode]at RZ
           go_wp2_with fail
           go_meet
           exact⟨by simp[Xu,hintCode],by simp[Xu,hintCode],rfl⟩)
       case rest =>
        obtain⟨rfl,rfl,rfl⟩:=hcut;go_upto_if 68 with fail;go_cut [] (λwx=>(Sort.rd lt dk a e lim wb wp).pi.2=false/\bl A b lb sb g sf 242 W W.heap.size wx (Sort.rd lt dk a e lim wb wp).pi.1)
        case first =>
         cases Y5:(wb&&wp&&decide ((Sort.rd lt dk a e lim wb wp).hint = .increasing))
         ·have U8:=Sort.rd_pi_no Y5;go_wp2_with fail;go_meet
          case rel=>exact⟨by rw[U8],by rw[U8];exact k9.out⟩
         ·have U8:=Sort.rd_pi_yes Y5;have MC:=vE K k9.out.row a e zo iS;rw[← U8]at MC
          cases hp2:(Sort.rd lt dk a e lim wb wp).pi.2 with
          | false =>
           rw[hp2]at MC
           go_wp2_with (go_at_call 240;refine MC.mono ?_;rintro e4 w4 ⟨rfl,ha,a_⟩)
           go_meet
           exact⟨hp2,k9.out.turn ha a_⟩
          | true =>
           rw[hp2]at MC
           go_wp2_with (go_at_call 240;refine MC.mono ?_;rintro e4 w4 ⟨rfl,ha,a_⟩)
           (try simp only[Exit.inBlock,Exit.then]);refine bodyPost_ret (results_none rfl _ _ _) rfl ?_
           exact⟨rfl,by rw[← CH.out,Sort.pdq_done h12 hl0 hp2];exact ha,k9.out.bar.trans a_⟩
        case rest =>
         obtain⟨hp2,Y6⟩:=hcut;have GU:=hid Y6;clear Y6 c0 c1;have c0:=GU.out.c0;have c1:=GU.out.c1;go_upto_region 18 with fail;go_cut [83] (λs83 wx=>s83 = .bool (decide (a>0) && !lt (Sort.rd lt dk a e lim wb wp).pi.1[a - 1]! (Sort.rd lt dk a e lim wb wp).pi.1[(Sort.rd lt dk a e lim wb wp).pivot]!)/\bl A b lb sb g sf 242 W W.heap.size wx (Sort.rd lt dk a e lim wb wp).pi.1)
         case first =>
          rcases Nat.eq_zero_or_pos a with ha0 | ha0
          ·have Xv:decide ((a:Int)>0)=false:=decide_eq_false zo;go_wp2_with fail;go_meet
           case rel=>exact⟨by simp[ha0],GU.out⟩
          ·have Xv:(a:Int)>0:=zo;have hl:=K.less (a - 1) (Sort.rd lt dk a e lim wb wp).pivot GU.out.row zo zo;rw[show((a - 1:Nat):Int)=(a:Int) - 1 by omega]at hl;go_wp2_with (go_at_fn g;refine hl.mono ?_;rintro e6 w6 ⟨rfl,hb6⟩);go_meet
           case rel=>exact⟨by simp[ha0],GU.out.next K hb6⟩
         case rest =>
          obtain⟨rfl,Y7⟩:=hcut;have SF:=hid Y7;clear Y7 c0 c1;have c0:=SF.out.c0;have c1:=SF.out.c1
          cases U9:(decide (a>0) && !lt (Sort.rd lt dk a e lim wb wp).pi.1[a - 1]! (Sort.rd lt dk a e lim wb wp).pi.1[(Sort.rd lt dk a e lim wb wp).pivot]!)
          ·obtain⟨mid,ap,d4,hx⟩:∃mid ap d4,partition lt (Sort.rd lt dk a e lim wb wp).pi.1 a e (Sort.rd lt dk a e lim wb wp).pivot=(mid,ap,d4):=⟨(partition lt (Sort.rd lt dk a e lim wb wp).pi.1 a e (Sort.rd lt dk a e lim wb wp).pivot).1,(partition lt (Sort.rd lt dk a e lim wb wp).pi.1 a e (Sort.rd lt dk a e lim wb wp).pivot).2.1,(partition lt (Sort.rd lt dk a e lim wb wp).pi.1 a e (Sort.rd lt dk a e lim wb wp).pivot).2.2,rfl⟩;obtain⟨r1,r2,r3,r4,r5,r6,r7⟩:=Sort.round_part S (Sort.partition_holds lt) hpv.1 hpv.2 (show e<=(Sort.rd lt dk a e lim wb wp).pi.1.size by omega) fF.out hx;have R1:=wK K SF.out.row a e (Sort.rd lt dk a e lim wb wp).pivot hpv.1 hpv.2 iS;rw[hx]at R1;have X:=hid hx;clear hx;go_upto_if 109 with(go_at_call 242;refine R1.mono ?_;rintro e7 w7 ⟨rfl,ha,a_⟩);have hx:=X.out;have SG:=hid (SF.out.turn ha a_);clear ha a_ c0 c1 R1;have c0:=SG.out.c0;have c1:=SG.out.c1;by_cases h4:mid - a<e - mid
           ·have h4z:(mid:Int) - (a:Int)<(e:Int) - (mid:Int):=zo;have hih:=IH.out w7 d4 a mid (Sort.rd lt dk a e lim wb wp).lim zo SG.out.row zo zo (Nat.lt_of_le_of_lt (Nat.le_trans Sort.rd_lim_le PS) hlim) r4;obtain⟨pL,sL⟩:=Sort.pdq_holds Sort.insertionSort_holds Sort.heapSort_holds Sort.partialInsertionSort_holds (Sort.partition_holds lt) (Sort.partitionEqual_holds lt) Sort.reverseRange_holds S d4 a mid (Sort.rd lt dk a e lim wb wp).lim true true zo zo r4;go_wp2_with (go_at_call 180;refine hih.mono ?_;rintro e8 w8 ⟨rfl,ha,a_⟩);go_roundg (e - (mid+1))
            case measure=>omega
            case rel =>
             refine⟨mid+1,e,(Sort.rd lt dk a e lim wb wp).lim,decide (mid - a>=(e - a) / 8),ap,pdq lt d4 a mid (Sort.rd lt dk a e lim wb wp).lim true true,by simp,rfl,rfl,?_,rfl,by omega,by omega,Nat.le_refl _,by omega,Nat.le_trans Sort.rd_lim_le PS,(r6 _ pL sL).1,SG.out.turn ha a_,?_⟩
             ·exact congrArg Value.bool (Ql zo zo)
             ·rw[← CH.out,Sort.pdq_left h12 hl0 hp2 U9 (by rw[hx];exact⟨r1,r2⟩) (by rw[hx];exact h4),hx]
           ·have h4z : ¬((mid:Int) - (a:Int)<(e:Int) - (mid:Int)):=zo;have hih:=IH.out w7 d4 (mid+1) e (Sort.rd lt dk a e lim wb wp).lim zo SG.out.row zo zo (Nat.lt_of_le_of_lt (Nat.le_trans Sort.rd_lim_le PS) hlim) r5;obtain⟨pL,sL⟩:=Sort.pdq_holds Sort.insertionSort_holds Sort.heapSort_holds Sort.partialInsertionSort_holds (Sort.partition_holds lt) (Sort.partitionEqual_holds lt) Sort.reverseRange_holds S d4 (mid+1) e (Sort.rd lt dk a e lim wb wp).lim true true zo zo r5;go_wp2_with (go_at_call 180;refine hih.mono ?_;rintro e8 w8 ⟨rfl,ha,a_⟩);go_roundg (mid - a)
            case measure=>omega
            case rel =>
             refine⟨a,mid,(Sort.rd lt dk a e lim wb wp).lim,decide (e - mid>=(e - a) / 8),ap,pdq lt d4 (mid+1) e (Sort.rd lt dk a e lim wb wp).lim true true,rfl,rfl,rfl,?_,rfl,by omega,by omega,Nat.le_refl _,by omega,Nat.le_trans Sort.rd_lim_le PS,(r7 _ pL sL).1,SG.out.turn ha a_,?_⟩
             ·exact congrArg Value.bool (Ql zo zo)
             ·rw[← CH.out,Sort.pdq_right h12 hl0 hp2 U9 (by rw[hx];exact⟨r1,r2⟩) (by rw[hx];exact h4),hx]
          ·have R2:=U9;simp only[Bool.and_eq_true,decide_eq_true_eq,Bool.not_eq_true']at R2;obtain⟨mid,d4,hx⟩:∃mid d4,partitionEqual lt (Sort.rd lt dk a e lim wb wp).pi.1 a e (Sort.rd lt dk a e lim wb wp).pivot=(mid,d4):=⟨(partitionEqual lt (Sort.rd lt dk a e lim wb wp).pi.1 a e (Sort.rd lt dk a e lim wb wp).pivot).1,(partitionEqual lt (Sort.rd lt dk a e lim wb wp).pi.1 a e (Sort.rd lt dk a e lim wb wp).pivot).2,rfl⟩;obtain⟨r1,r2,r3,r4,_⟩:=Sort.round_eq S (Sort.partitionEqual_holds lt) R2.1 hpv.1 hpv.2 (show e<=(Sort.rd lt dk a e lim wb wp).pi.1.size by omega) fF.out R2.2 hx;have Uh:=pb K SF.out.row a e (Sort.rd lt dk a e lim wb wp).pivot hpv.1 hpv.2 iS;rw[hx]at Uh;have X:=hid hx;clear hx;go_wp2_with (go_at_call 241;refine Uh.mono ?_;rintro e7 w7 ⟨rfl,ha,a_⟩);go_roundg (e - mid)
           case measure=>omega
           case rel =>
            have hx:=X.out;exact⟨mid,e,(Sort.rd lt dk a e lim wb wp).lim,wb,wp,d4,rfl,rfl,rfl,rfl,rfl,r2,iS,Nat.le_refl _,by omega,Nat.le_trans Sort.rd_lim_le PS,r4,SF.out.turn ha a_,by rw[← CH.out,Sort.pdq_eq h12 hl0 hp2 U9 (by rw[hx];exact⟨r1,r2⟩),hx]⟩
end
end So
end Go.Proofs.YtbhnbcadgmagpaaGreatDoor
namespace Go.Proofs.YtbhnbcadgmagpaaGreatDoor
open Go.ChangeShapes Go.WideShapes Go.ChangeAt Go.RowKit Go.aN Go.Lib
namespace Au
open ak
open Go.Shelf
open Go.Sort hiding Below
abbrev KO:={k:Ke // k.Ok}
instance:Inhabited KO:=⟨⟨⟨0,0,0,0,0⟩,⟨by decide,by decide,by decide,by decide,by decide⟩⟩⟩
def iN(k:KO):List Value:=[.int .u32 (k.1.a:Int),.int .u32 (k.1.b:Int),.int .u16 (k.1.p:Int),.int .u16 (k.1.q:Int),.int .u8 (k.1.r:Int)]
def CI(x y:KO):Bool:=decide (x.1.num<y.1.num)
theorem tK:Sort.SWO CI where
 irrefl x:=by unfold CI;simp
 trans x y z h1 h2:=by unfold CI at *;simp only[decide_eq_true_eq]at *;omega
 ntrans x y z h1 h2:=by unfold CI at *;simp only[decide_eq_false_iff_not]at *;omega
theorem kY(x:KO):(iN x).length=5:=rfl
structure eG(blk cb m n cap:Nat)(W:World)(d:Array KO):Prop where
 holds:HoldsK iN 5 W blk 0 d
 size:d.size=n
 box:W.cell? ⟨cb,0,none⟩=some (.slice (some ⟨blk,0,none⟩) n cap)
 le:m<=W.heap.size
 bm:blk<m
 cm:cb<m
theorem eG.keep{blk cb m n cap:Nat}{W W':World}{d:Array KO}(H:eG blk cb m n cap W d)(h:∀j,j<m->W'.heap[j]? = W.heap[j]?)(hs:W.heap.size<=W'.heap.size):eG blk cb m n cap W' d :=
 ⟨λj hj=>⟨(World.cell?_of_block (h blk H.bm)).trans (H.holds j hj).1,(World.frozen?_of_block (h blk H.bm)).trans (H.holds j hj).2⟩,H.size,(World.cell?_of_block (h cb H.cm)).trans H.box,Nat.le_trans H.le hs,H.bm,H.cm⟩
theorem qF(W:World)(blk off:Nat)(d:Array KO):iG blk W (putRowK iN 5 W blk off d) :=
 ⟨rfl,rfl,rfl,by simp[putRowK,Sort.putRow,Sort.mapBlock],λj _ hn=>by simp[putRowK,Sort.putRow,Sort.mapBlock,Array.getElem?_modify,Ne.symm hn]⟩
theorem eG.put{blk cb m n cap:Nat}{W:World}{d d':Array KO}(H:eG blk cb m n cap W d)(hne:cb≠blk)(hd:d'.size=n):eG blk cb m n cap (putRowK iN 5 W blk 0 d') d' :=
 ⟨holdsK_putRowK iN 5 W blk 0 d d' H.holds (hd.trans H.size.symm),hd,by rw[cell?_putRowK_other iN 5 W blk 0 d' _ hne];exact H.box,Nat.le_trans H.le (qF W blk 0 d').size,H.bm,H.cm⟩
theorem eG.swap{blk cb m n cap:Nat}{W:World}{d:Array KO}(H:eG blk cb m n cap W d)(hne:cb≠blk)(i j:Nat)(hi:i<n)(hj:j<n) :
  eG blk cb m n cap ((W.setCells blk (0+i*5) (iN d[j]!)).setCells blk (0+j*5) (iN d[i]!)) (Sort.swp d i j)/\iG blk W ((W.setCells blk (0+i*5) (iN d[j]!)).setCells blk (0+j*5) (iN d[i]!)):=by
 have h:=putRowK_swp iN 5 kY W blk 0 d i j (by rw[H.size];exact hi) (by rw[H.size];exact hj)
 rw[putRowK_self iN 5 W blk 0 d H.holds]at h
 rw[h]
 exact⟨H.put hne (by rw[Sort.size_swp];exact H.size),qF _ _ _ _⟩
structure Ui(W:World)(blk i:Nat)(k:Ke):Prop where
 c0:W.cell? ⟨blk,i*5,none⟩=some (.int .u32 (k.a:Int))
 c1:W.cell? ⟨blk,i*5+1,none⟩=some (.int .u32 (k.b:Int))
 c2:W.cell? ⟨blk,i*5+2,none⟩=some (.int .u16 (k.p:Int))
 c3:W.cell? ⟨blk,i*5+3,none⟩=some (.int .u16 (k.q:Int))
 c4:W.cell? ⟨blk,i*5+4,none⟩=some (.int .u8 (k.r:Int))
theorem eG.Uj{blk cb m n cap:Nat}{W:World}{d:Array KO}(H:eG blk cb m n cap W d)(i:Nat)(hi:i<n):Ui W blk i d[i]!.1:=by
 have hh:∀u,u<5->W.cell? ⟨blk,0+i*5+u,none⟩=some ((iN d[i]!)[u]!):=λu hu=>(H.holds.cell (by rw[H.size];exact hi) hu).1;refine⟨?_,?_,?_,?_,?_⟩
 ·have:=hh 0 zo;rw[show 0+i*5+0=i*5 by omega]at this;exact this
 ·have:=hh 1 zo;rw[show 0+i*5+1=i*5+1 by omega]at this;exact this
 ·have:=hh 2 zo;rw[show 0+i*5+2=i*5+2 by omega]at this;exact this
 ·have:=hh 3 zo;rw[show 0+i*5+3=i*5+3 by omega]at this;exact this
 ·have:=hh 4 zo;rw[show 0+i*5+4=i*5+4 by omega]at this;exact this
theorem pP(x y:KO):cB.lU x.1.a x.1.b x.1.p x.1.q x.1.r y.1.a y.1.b y.1.p y.1.q y.1.r=CI x y:=Ke.pP x.2 y.2
theorem eG.Ct{blk cb m n cap:Nat}{W W':World}{d:Array KO}(H:eG blk cb m n cap W d)(hb:Below W.heap.size W W'):eG blk cb m n cap W' d:=H.keep (λj hj=>hb.block j (Nat.lt_of_lt_of_le hj H.le)) hb.size
theorem rY{w w1 w2:World}(h:Below w.heap.size w w1)(h2:Below w1.heap.size w1 w2):Below w.heap.size w w2:=h.trans (h2.mono h.size)
theorem Cu:∃ie,Tryz.prog.info? 87=some ie/\ie.size=5:=⟨_,rfl,by kernel_rfl⟩
theorem Cv:∀x,∀v∈iN x,v.oneCell'=true:=by
 intro x u hu;simp only[iN,List.mem_cons,List.not_mem_nil,or_false]at hu
 rcases hu with rfl | rfl | rfl | rfl | rfl <;> rfl
theorem swaps(blk n c:Nat):SwapSwapsK Tryz.prog 232 #[.slice (some ⟨blk,0,none⟩) n c,typeHandle Tryz.prog 87] iN 5 blk 0 n:=by
 obtain⟨ie,hie,hs⟩:=Cu
 exact swapSwapsK_of_literal false 232
  (λargs W=>run_callFunc_extern Tryz.func232 zk zk zk (e:=Extern.ReflectliteSwapper.swap false) zk args W)
  87 ie hie iN 5 kY hs (λw=>by kernel_rfl) Cv blk 0 n c
theorem lS{blk cb m n cap:Nat}{W:World}{d dk:Array KO}(H:eG blk cb m n cap W d)(hne:cb≠blk)(hs:dk.size=n)(q:Nat)(os:Array Obj) :
  eG blk cb m n cap (sortWorldK iN 5 W blk 0 q dk os) dk/\iG blk W (sortWorldK iN 5 W blk 0 q dk os):=by
 have hg:∀w:World,Below w.heap.size w (Sort.grow w os):=λw=>⟨rfl,rfl,rfl,by simp[Sort.grow],λk hk=>by simp[Sort.grow,Array.getElem?_append_left hk]⟩
 have H0:eG blk cb m n cap (Sort.ahead W q) d:=⟨H.holds,H.size,H.box,H.le,H.bm,H.cm⟩
 have H1:=H0.put hne hs
 have hb0:iG blk W (Sort.ahead W q):=⟨rfl,rfl,rfl,Nat.le_refl _,λ_ _ _=>rfl⟩
 exact⟨H1.Ct (hg _),hb0.trans ((qF (Sort.ahead W q) blk 0 dk).next (hg _))⟩
theorem yb:∃ie,Tryz.prog.info? 87=some ie/\ie.hasPointers=false/\ie.bytes=16:=⟨_,rfl,by kernel_rfl,by kernel_rfl⟩
theorem yc:∃i,Tryz.prog.info? 42=some i/\i.desc = .slice 87:=⟨_,rfl,by kernel_rfl⟩
theorem Uk:Tryz.prog.funcs.findIdx? (λx=>x.name == "internal/reflectlite" ++ ".Swapper$" ++ toString 9)=some 232:=zk
theorem Ej(f x:Nat):Lib.bitLenAux f x<=f:=by
 induction f generalizing x with
 | zero=>exact Nat.le_refl _
 | succ f ih =>
  unfold Lib.bitLenAux
  split
  ·omega
  ·have:=ih (x / 2);omega
theorem qG(n:Nat):Lib.bitLen n<4611686018427387904:=by
 have:=Ej 64 n;unfold Lib.bitLen;omega
theorem whole(d:Array KO)(n:Nat)(h:d.size=n):d.extract 0 n=d:=by subst h;simp
end Au
end Go.Proofs.YtbhnbcadgmagpaaGreatDoor
