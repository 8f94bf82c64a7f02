import Derived.Test.YtbhnbcadgmagpaaGreatDoorBii
import Derived.Test.YtbhnbcadgmagpaaGreatDoorJ1
import Derived.Test.YtbhnbcadgmagpaaGreatDoorJ12
import Derived.Test.YtbhnbcadgmagpaaGreatDoorJ39
import Derived.Test.YtbhnbcadgmagpaaGreatDoorJ40
import Derived.Test.YtbhnbcadgmagpaaGreatDoorJ28
set_option linter.unusedVariables false
set_option linter.unusedSimpArgs false
set_option maxHeartbeats 4000000
set_option maxRecDepth 100000
namespace Go.Proofs.YtbhnbcadgmagpaaGreatDoor
open Go.ChangeShapes Go.WideShapes Go.ChangeAt Go.RowKit Go.aN Go.Lib
namespace Tb
open bJ
open Go.ChangeMaps (setBlock)
theorem j8{w:World}{r:Nat}(o:Obj)(h:r<w.heap.size):(setBlock w r o).heap[r]? = some o:=by simp[setBlock,h]
theorem fc{w:World}{r k:Nat}(o:Obj)(h:k≠r):(setBlock w r o).heap[k]? = w.heap[k]?:=by simp[setBlock,Ne.symm h]
theorem gq{w:World}{r m a c:Nat}{s:Array Nat}(h:w.heap[r]? = some (.mapIter (some m) a s c)):w.iterSeen r=s:=by unfold World.iterSeen;rw[h]
def wH:Value->ak.Ke
 | .agg cs=>match cs.toList with
  | [.int _ a,.int _ b,.int _ p,.int _ q,.int _ r]=>⟨a.toNat,b.toNat,p.toNat,q.toNat,r.toNat⟩
  | _=>⟨0,0,0,0,0⟩
 | _=>⟨0,0,0,0,0⟩
theorem Fz(k:ak.Ke):wH (Au.iQ k)=k:=by cases k;rfl
def I9(es:List MapEntry):List ak.Ke:=es.map λe=>wH e.key
theorem RM{es:List MapEntry}{gs:List Fl}(h:es.map n7=gs.map kv):I9 es=gs.map (·.k):=by
 have h1:=congrArg (List.map λp:Value×Value=>wH p.1) h;simp only[List.map_map]at h1;unfold I9;rw[show(λe:MapEntry=>wH e.key)=(λp:Value×Value=>wH p.1) ∘ n7 from rfl,h1];refine List.map_congr_left λf _=>?_;exact Fz f.k
theorem RN{es:List MapEntry}{gs:List Fl}(h:es.map n7=gs.map kv){e:MapEntry}(he:e∈es):e.key=Au.iQ (wH e.key):=by
 have:n7 e∈gs.map kv:=by rw[← h];exact List.mem_map_of_mem he
 obtain⟨f,_,hf⟩:=List.mem_map.1 this;have h1:Au.iQ f.k=e.key:=congrArg Prod.fst hf;rw[← h1,Fz]
theorem IG{es:Array MapEntry}{seen:Array Nat}{e:MapEntry}(hn:(es.toList.map (·.born)).Nodup)(he:e∈(leftOf es seen).toList):((leftOf es seen).toList).Perm (e::(leftOf es (seen.push e.born)).toList):=by
 have e1:(leftOf es (seen.push e.born)).toList=(leftOf es seen).toList.filter λx=>!(x.born==e.born):=by
  unfold leftOf;rw[Array.toList_filter,Array.toList_filter,List.filter_filter];refine List.filter_congr λx _=>?_;rw[contains_push]
  cases seen.contains x.born <;> cases (x.born==e.born) <;> rfl
 rw[e1]
 have Pz:((leftOf es seen).toList.map (·.born)).Nodup:=by
  unfold leftOf;rw[Array.toList_filter];exact(List.Sublist.map _ List.filter_sublist).nodup hn
 generalize (leftOf es seen).toList=l at he Pz;clear e1
 induction l with
 | nil=>cases he
 | cons x l ih =>
  have hc:=List.nodup_cons.1 Pz
  rcases List.mem_cons.1 he with rfl | he
  ·rw[List.filter_cons,if_neg zs,List.filter_eq_self.2];intro y hy;have:y.born≠e.born:=λe2=>hc.1 (List.mem_map.2 ⟨y,hy,e2⟩);simpa using this
  ·have hne:x.born≠e.born:=λe2=>hc.1 (List.mem_map.2 ⟨e,he,e2.symm⟩);rw[List.filter_cons,if_pos (by simpa using hne)];exact((ih he hc.2).cons x).trans (List.Perm.swap _ _ _)
def Qg(es:Array MapEntry)(clock M r:Nat)(J:List ak.Ke->World->Prop)(wr:World)(seen:Array Nat)(ks:List ak.Ke):Prop :=
 wr.heap[r]? = some (.mapIter (some M) clock seen clock)/\wr.heap[M]? = some (.map es clock)/\(ks++I9 (leftOf es seen).toList).Perm (I9 es.toList)/\J ks wr
theorem Mv{es:Array MapEntry}:(leftOf es #[]).toList=es.toList:=by
 unfold leftOf;rw[Array.toList_filter]
 exact List.filter_eq_self.2 λx _=>by simp
theorem sS(W:World)(o:Obj):W.grownBy (W.alloc o) none:=⟨rfl,rfl,rfl,by simp,λk hk _=>Below.heap_alloc _ _ k hk⟩
theorem Ef(W:World):W.grownBy W.drew none:=⟨rfl,rfl,rfl,Nat.le_refl _,λ_ _ _=>rfl⟩
theorem Cp(W:World)(r:Nat)(o:Obj):W.grownBy (setBlock W r o) (some r):=⟨rfl,rfl,rfl,by simp[setBlock],λk _ hk=>fc o (λe=>hk (by rw[e]))⟩
theorem Mw{ks:List ak.Ke}{e:MapEntry}{l l' all:List MapEntry}(hp:(ks++I9 l).Perm (I9 all))(hl:l.Perm (e::l')):((ks++[wH e.key])++I9 l').Perm (I9 all):=by
 refine List.Perm.trans ?_ hp;rw[List.append_assoc];refine List.Perm.append_left ks ?_;have:=(hl.map λe=>wH e.key).symm;exact this
theorem Mx(n:Nat)(hn:1<=n)(l Bm M:Nat)(fs:List Fl)(J:List ak.Ke->World->Prop)(W:World)
  (hY:∀pre x W,J pre W->pre.length<fs.length->YieldAt Fence.wide (n - 1) Tryz.prog l #[Au.iQ x] W λe W'=>e = .returned (.bool true)/\J (pre++[x]) W'/\KeepsWalks W W')
  (hJ:AbidesFrom W.heap.size J) (hm:W.cell? ⟨Bm,0,none⟩=some (.map (some M))) (hM:MapAt W M fs) (h0:J [] W) :
  CallsIn Fence.wide n Tryz.prog 175 #[.func (.yield l) #[] #[],.pointer (some ⟨Bm,0,none⟩)] W λe W'=>(∃v,e = .returned v)/\∃ks:List ak.Ke,ks.Perm (fs.map (·.k))/\J ks W':=by
 obtain⟨es,clock,gs,hb,h1,h2,h3,h4⟩:=hM
 have jp:M<W.heap.size:=(Array.getElem?_eq_some_iff.1 hb).1
 have UI:=run_range_map (P:=Tryz.prog) W 133 87 187 M es clock lq hb
 have hall:(I9 es.toList).Perm (fs.map (·.k)):=by rw[RM h1];exact h2.map _
 have T5:=hid hall
 have Qh:=hid h3
 have Xc:=hid h4
 have Xd:Hid (∀e∈es.toList,e.key=Au.iQ (wH e.key)):=λe he=>RN h1 he
 have HJ:=hid hJ
 have HY:=hid hY
 have HI:Hid (∃seen ks,Qg es clock M W.heap.size J (W.alloc (.mapIter (some M) clock #[] clock)) seen ks):=by
  refine⟨#[],[],heap_alloc_new _ _,(heap_alloc_old _ _ jp).trans hb,?_,hJ [] W _ none h0 (sS _ _) (λr e=>by cases e)⟩;rw[Mv,List.nil_append]
 refine callsIn_of_wp Tryz.func175 rfl trivial ?_ rfl
 simp only[Tryz.ntmps175,List.size_toArray,List.length_cons,List.length_nil,Nat.reduceAdd,Nat.reduceSub,Array.replicate_succ,Array.replicate_zero,List.push_toArray,List.append_toArray,List.nil_append,List.cons_append]
 gi_wp2
 clear UI hm hall h1 h2 h3 h4 hJ hY h0 hb
 have Od:=hid jp
 clear jp
 gi_loopw [3] (λ_ wr=>∃seen ks,Qg es clock M W.heap.size J wr seen ks) (λ_ wr=>(leftOf es (wr.iterSeen W.heap.size)).size)
 case atStart=>exact HI.out
 case round =>
  obtain⟨seen,ks,hr,hb,hp,hj⟩:=hrel;have VS:=hid (gq hr);have hrl:W.heap.size<wr.heap.size:=(Array.getElem?_eq_some_iff.1 hr).1;have law:=run_next_at (P:=Tryz.prog) wr 0 W.heap.size M clock clock seen es clock hr hb Xc.out zl
  rcases law with⟨hz,hrun⟩ | ⟨e,he,w2,uO,hrun⟩
  ·have UJ:∀ty,(Instr.next (.pointer (some ⟨W.heap.size,0,none⟩)) false ty).run Tryz.prog wr=_:=λ_=>hrun;have hl:leftOf es seen = #[]:=Array.eq_empty_of_size_eq_zero hz;rw[hl]at hp
   have HP:Hid (ks.Perm (fs.map (·.k))):=by
    have h:(ks++I9 (#[]:Array MapEntry).toList)=ks:=List.append_nil _;rw[h]at hp;exact hp.trans T5.out
   have HJ1:=hid hj;clear hr hb hp hj hrun hz hl hrl
   gi_wp2
   go_end0;exact⟨⟨_,rfl⟩,ks,HP.out,HJ1.out⟩
  ·obtain⟨q,hq⟩:∃q,q=wH e.key:=⟨_,rfl⟩;have hkey:=Xd.out e (mem_left he).1;rw[← hq]at hkey;rw[hkey]at hrun;have UJ:∀ty,(Instr.next (.pointer (some ⟨W.heap.size,0,none⟩)) false ty).run Tryz.prog wr=_:=λ_=>hrun
   have jc:w2.heap=wr.heap:=by rcases uO with rfl | rfl <;> rfl
   have oI:wr.grownBy w2 none:=by rcases uO with rfl | rfl;exact⟨rfl,rfl,rfl,Nat.le_refl _,λ_ _ _=>rfl⟩;exact Ef _
   have hj2:J ks w2:=HJ.out ks wr w2 none hj oI (λr e=>by cases e);have hr3:=j8 (w:=w2) (r:=W.heap.size) (.mapIter (some M) clock (seen.push e.born) clock) (by rw[jc];exact hrl);have eP:(setBlock w2 W.heap.size (.mapIter (some M) clock (seen.push e.born) clock)).heap[M]? = some (.map es clock):=(fc _ (by have:=Od.out;omega)).trans (by rw[jc];exact hb);have iS:=run_entry_at (P:=Tryz.prog) (setBlock w2 W.heap.size (.mapIter (some M) clock (seen.push e.born) clock)) W.heap.size M clock seen es clock e hr3 eP (mem_left he).1 Qh.out;rw[hkey]at iS;have YS:J ks (setBlock w2 W.heap.size (.mapIter (some M) clock (seen.push e.born) clock)):=HJ.out ks w2 _ (some W.heap.size) hj2 (Cp _ _ _) (λr e=>by cases e;exact⟨Nat.le_refl _,_,by rw[jc];exact hr,rfl⟩);have HM:Hid ((leftOf es (seen.push e.born)).size<(leftOf es seen).size):=left_shrinks es seen e he
   have HP:Hid (((ks++[q])++I9 (leftOf es (seen.push e.born)).toList).Perm (I9 es.toList)):=by rw[hq];exact Mw hp (IG Qh.out he)
   have Tp:=hid (gq hr3);generalize setBlock w2 W.heap.size (.mapIter (some M) clock (seen.push e.born) clock)=w3 at *;have iX:=hid hr3;have fF:=hid eP;have HJ3:=hid YS
   have O_:Hid (ks.length<fs.length):=by
    show ks.length<fs.length;have h1:=HP.out.length_eq;have h2:=T5.out.length_eq;simp only[List.length_append,List.length_cons,List.length_nil,List.length_map]at h1 h2;omega
   clear hr hb hp hrun hkey uO jc hr3 eP he hrl hj oI hj2 YS hq;have YT:J ks (w3.alloc (.cells #[.int .u32 (q.a:Int),.int .u32 (q.b:Int),.int .u16 (q.p:Int),.int .u16 (q.q:Int),.int .u8 (q.r:Int)] 87)):=HJ.out ks w3 _ none HJ3.out (sS _ _) (λr e=>by cases e);obtain⟨fn,tmps,assign,body,hy,hR⟩:=HY.out ks q _ YT O_.out;have hr4:=(heap_alloc_old w3 (.cells #[.int .u32 (q.a:Int),.int .u32 (q.b:Int),.int .u16 (q.p:Int),.int .u16 (q.q:Int),.int .u8 (q.r:Int)] 87) (Array.getElem?_eq_some_iff.1 iX.out).1).trans iX.out;have hb4:=(heap_alloc_old w3 (.cells #[.int .u32 (q.a:Int),.int .u32 (q.b:Int),.int .u16 (q.p:Int),.int .u16 (q.q:Int),.int .u8 (q.r:Int)] 87) (Array.getElem?_eq_some_iff.1 fF.out).1).trans fF.out;have VI:=hid hr4;have rL:=hid hb4;clear YT hr4 hb4;replace hy:(Instr.yield l #[.agg #[.int .u32 (q.a:Int),.int .u32 (q.b:Int),.int .u16 (q.p:Int),.int .u16 (q.q:Int),.int .u8 (q.r:Int)]]).run Tryz.prog (w3.alloc (.cells #[.int .u32 (q.a:Int),.int .u32 (q.b:Int),.int .u16 (q.p:Int),.int .u16 (q.q:Int),.int .u8 (q.r:Int)] 87)) = .ok (.round l fn tmps assign body) _:=hy
   gi_wp2
   refine hR.mono ?_;rintro e5 W5 ⟨rfl,Xe,Xf⟩;have UG:=hid (Xf.same _ _ VI.out rfl);have Dw:=hid (Xf.same _ _ rL.out rfl);have HJ5:=hid Xe;clear hy hR Xe Xf iS UJ
   gi_wp2
   go_roundw
   case rel=>exact⟨_,_,UG.out,Dw.out,HP.out,HJ5.out⟩
   case measure=>rw[gq UG.out,VS.out];exact HM.out
end Tb
namespace Tb
open bJ
abbrev k5(k:ak.Ke):List Value:=[.int .u32 (k.a:Int),.int .u32 (k.b:Int),.int .u16 (k.p:Int),.int .u16 (k.q:Int),.int .u8 (k.r:Int)]
def rD(ks:List ak.Ke):List Value:=ks.flatMap k5
theorem Pa(ks:List ak.Ke)(k:ak.Ke):rD (ks++[k])=rD ks++k5 k:=by unfold rD;rw[List.flatMap_append];rfl
theorem Pb(ks:List ak.Ke):(rD ks).length=ks.length*5:=by
 induction ks with
 | nil=>rfl
 | cons k ks ih =>
  show(k5 k++rD ks).length=_
  rw[List.length_append,ih]
  show 5+ks.length*5=(ks.length+1)*5
  omega
theorem RR(k:ak.Ke):∀u∈k5 k,u.oneCell'=true:=by
 intro u hu;simp only[k5,List.mem_cons,List.not_mem_nil,or_false]at hu
 rcases hu with rfl | rfl | rfl | rfl | rfl <;> rfl
theorem RS(w:World)(k:ak.Ke)(t:TypeId):∀j u,(k5 k)[j]? = some u->(w.alloc (.cells (k5 k).toArray t)).cell? ((⟨w.heap.size,0,none⟩:Addr).add j)=some u:=by
 intro j u h;have:=(aF.box w (k5 k).toArray t).cell j u (by simpa using h);unfold Addr.add;split
 ·rename_i hj;subst hj;exact this
 ·simpa using this
def Pc(base:Nat)(qK:List ak.Ke)(w:World)(ks:List ak.Ke)(W:World):Prop :=
 (∃v,W.heap[w.heap.size]? = some (.cells #[v] 42 (0,0))/\W.ownsRow base 87 5 v (qK++ks).length (rD (qK++ks)))/\Below base w W
theorem II:Tryz.prog.underlying 42=some (.slice 87):=zk
theorem vD{W W':World}{row:Option Nat}{base:Nat}{e:TypeId}{size:Nat}{v:Value}{k:Nat}{xs:List Value}(h:W.ownsRow base e size v k xs)(hg:W.grownBy W' row)
  (hrow:∀r,row=some r->∃o:Obj,W.heap[r]? = some o/\o.isCells=false):W'.ownsRow base e size v k xs:=by
 refine h.kept hg ?_
 rcases h.2 with⟨rfl,_⟩ | ⟨g,cap,cur,rfl,_,hgb,_⟩
 ·exact .inl rfl
 ·refine .inr λe'=>?_;obtain⟨o,ho,hw⟩:=hrow g (by simpa[Value.ownBlock]using e'.symm)
  rw[hgb]at ho;cases ho;cases hw
theorem Eh(base:Nat)(qK:List ak.Ke)(w:World)(hbase:base<=w.heap.size)(B:Nat)(hB:w.heap.size<=B):OwnFrom B (Pc base qK w):=by
 rintro ks W W' row ⟨⟨v,hv,ho⟩,hb⟩ hg hr;refine⟨⟨v,?_,vD ho hg λr e=>(hr r e).2⟩,hb.grown hg (Nat.le_trans hbase hb.size) λk e=>Nat.le_trans (Nat.le_trans hbase hB) (hr k e).1⟩;exact(grownBy_keeps_cells hg (λr e=>(hr r e).2) hv rfl).trans hv
theorem IJ{w:World}{Bm M:Nat}{fs:List Fl}(hm:w.cell? ⟨Bm,0,none⟩=some (.map (some M)))(hM:MapAt w M fs)(n:Nat)(hn:1<=n) :
  SeqGives Fence.wide n Tryz.prog 175 #[.pointer (some ⟨Bm,0,none⟩)] Au.iQ (λks=>ks.Perm (fs.map (·.k))) fs.length w:=by
 intro l J W hW hJ hY h0
 have hB:Bm<w.heap.size:=by
  obtain⟨o,ho,_⟩:=cells_of_cell hm;exact(Array.getElem?_eq_some_iff.1 ho).1
 exact Mx n hn l Bm M fs J W hY hJ ((hW.cell (p:=⟨Bm,0,none⟩) hB).trans hm) (hM.keep (hW.block _ hM.lt)) h0
theorem My:(Tryz.prog.info? 87).map (λi=>(i.zero,i.size,i.bytes))=some (some (.agg #[.int .u32 0,.int .u32 0,.int .u16 0,.int .u16 0,.int .u8 0]),5,16):=zk
theorem IK(W:World)(b:Nat)(v:Value):W.grownBy (W.setCell ⟨b,0,none⟩ v) (some b) :=
 ⟨rfl,rfl,rfl,(KeepsWalks.setCell W _ v).size,λk _ hk=>Below.heap_setCell _ _ _ k (λe=>hk (by rw[e]))⟩
theorem FA{W:World}{base:Nat}{e:TypeId}{size:Nat}{v:Value}{k:Nat}{xs:List Value}(h:W.ownsRow base e size v k xs){j:Nat}{o:Obj}(hj:W.heap[j]? = some o)(hno:∀cur,o ≠ .cells cur e (0,0)):some j≠v.ownBlock:=by
 intro e'
 rcases h.2 with⟨rfl,_⟩ | ⟨g,cap,cur,rfl,_,hgb,_⟩
 ·cases e'
 ·have:j=g:=Option.some.inj e';subst this
  rw[hgb]at hj;cases hj;exact hno cur rfl
theorem IL{W:World}{base:Nat}{e:TypeId}{size:Nat}{v:Value}{k:Nat}{xs:List Value}(h:W.ownsRow base e size v k xs):∀(j:Nat) (o:Obj),v.ownBlock=some j->W.heap[j]? = some o->o.isCells=true:=by
 intro j o hj ho
 rcases h.2 with⟨rfl,_⟩ | ⟨g,cap,cur,rfl,_,hgb,_⟩
 ·cases hj
 ·have:g=j:=Option.some.inj hj
  subst this;rw[hgb]at ho;cases ho;rfl
theorem FB{W:World}{B:Nat}{v:Value}{t:TypeId}(v':Value)(h:W.heap[B]? = some (.cells #[v] t (0,0))):(W.setCell ⟨B,0,none⟩ v').heap[B]? = some (.cells #[v'] t (0,0)):=by
 obtain⟨hlt,hk⟩:=Array.getElem?_eq_some_iff.1 h;show(W.heap.modify B _)[B]? = _;rw[Array.getElem?_eq_getElem (by rw[Array.size_modify];exact hlt),Array.getElem_modify_self,hk];rfl
theorem jE{W:World}{B:Nat}{v:Value}{t:TypeId}(h:W.heap[B]? = some (.cells #[v] t (0,0))):W.cell? ⟨B,0,none⟩=some v/\W.frozen? ⟨B,0,none⟩=false:=by
 constructor <;> simp[World.cell?,World.frozen?,h]
theorem sU:42≠87:=zd
theorem Pd{base:Nat}{qK:List ak.Ke}{w W2 w3:World}(hbase:base<=w.heap.size){ks:List ak.Ke}{x:ak.Ke}{v v':Value}(hv:W2.heap[w.heap.size]? = some (.cells #[v] 42 (0,0)))(hrow:W2.ownsRow base 87 5 v (qK++ks).length (rD (qK++ks)))(hb:Below base w W2)
  (o:Obj) (hown:w3.ownsRow base 87 5 v' ((qK++ks).length+1) (rD (qK++ks)++k5 x)) (hg:(W2.alloc o).grownBy w3 v.ownBlock) :
  w3.heap[w.heap.size]? = some (.cells #[v] 42 (0,0))/\KeepsOthers W2 (w3.setCell ⟨w.heap.size,0,none⟩ v')/\Pc base qK w (ks++[x]) (w3.setCell ⟨w.heap.size,0,none⟩ v'):=by
 have hne:∀cur,(Obj.cells #[v] 42 (0,0)) ≠ .cells cur 87 (0,0):=λcur e=>sU (Obj.cells.inj e).2.1
 have hlt:w.heap.size<W2.heap.size:=(Array.getElem?_eq_some_iff.1 hv).1
 have CF:w3.heap[w.heap.size]? = some (.cells #[v] 42 (0,0)):=(hg.block _ zt (FA hrow hv hne)).trans ((Below.heap_alloc _ _ _ hlt).trans hv)
 have YU:=IK w3 w.heap.size v'
 have eP:Below base w w3:=(hb.alloc (Nat.le_trans hbase hb.size) o).grown hg (by have:=hb.size;simp;omega) (λk e=>(hrow.lt k e).1)
 refine⟨CF,?_,⟨⟨v',FB v' CF,?_⟩,eP.grown YU (Nat.le_trans hbase eP.size) (λk e=>by cases e;exact hbase)⟩⟩
 ·exact((KeepsOthers.alloc _ _).trans (KeepsOthers.of_grownBy hg (IL (hrow.alloc o)))).trans (KeepsOthers.setCell _ _ _)
 ·rw[← List.append_assoc,List.length_append,Pa];refine hown.kept YU ?_
  rcases hown.2 with⟨rfl,h⟩ | ⟨g,cap,cur,rfl,_,hgb,_⟩
  ·exact absurd h zo
  ·refine .inr λe'=>FA hown CF (λcur e=>sU (Obj.cells.inj e).2.1) e'.symm
theorem Ei(n:Nat)(hn:2<=n)(w:World)(g:Nat)(lb:Array Value)(eg:∀args w,(callFunc g args).run Tryz.prog w = .ok (.enter g args) w)(S:List ak.Ke->Prop)(N:Nat)(hN:N<=100000)
  (hseq:SeqGives Fence.wide (n - 1) Tryz.prog g lb Au.iQ S N w) (base:Nat) (hbase:base<=w.heap.size) (A0:Option Addr) (n0 c0:Nat) (qK:List ak.Ke) (hn0:qK.length=n0) (hl0:n0<=1000000) (hown:w.ownsRow base 87 5 (.slice A0 n0 c0) n0 (rD qK)) :
  CallsIn Fence.wide n Tryz.prog 119 #[.slice A0 n0 c0,.func (.func g) #[] lb] w λe w'=>∃(v:Value) (ks:List ak.Ke),e = .returned v/\S ks/\w'.ownsRow base 87 5 v (qK++ks).length (rD (qK++ks))/\Below base w w':=by
 have h1:1<=n:=zo
 have h0:Pc base qK w [] (w.alloc (.cells #[.slice A0 n0 c0] 42)):=⟨⟨_,World.alloc_heap_new w _,by rw[List.append_nil,hn0];exact hown.alloc _⟩,(Below.refl _ w).alloc hbase _⟩
 have H0:=hid h0
 have RT:=hid hbase
 have YV:=hid (show qK.length<=1000000 by omega)
 have hb0:Below w.heap.size w (w.alloc (.cells #[.slice A0 n0 c0] 42)):=(Below.refl _ w).alloc zl _
 have qV:=hid hb0
 clear hn0 hl0 hown hbase hb0
 have Xh:=hid hseq
 clear h0 hseq
 refine callsIn_of_wp_marks Tryz.func119 rfl trivial ?_ rfl
 simp only[Tryz.ntmps119,List.size_toArray,List.length_cons,List.length_nil,Nat.reduceAdd,Nat.reduceSub,Array.replicate_succ,Array.replicate_zero,List.push_toArray,List.append_toArray,List.nil_append,List.cons_append]
 gi_wp2
 refine o8 rfl h1 rfl trivial eg Xh.out qV.out (Pc base qK w) (Eh base qK w RT.out _ zs) H0.out ?_ ?_
 ·intro l ks x W hI hlen hle hlt;have HI:=hid hI;have BO:=hid hle;have Gy:=hid hlt;have O_:=hid hlen;clear hI hlen hle hlt;change Code.wpIn _ _ _ _ _ { tmps:=#[.slice A0 n0 c0,.func (.func g) #[] lb,.pointer (some ⟨w.heap.size,0,none⟩),undef,.slice none 0 0,undef,.func (.func g) #[] lb,.agg #[.int .u32 (x.a:Int),.int .u32 (x.b:Int),.int .u16 (x.p:Int),.int .u16 (x.q:Int),.int .u8 (x.r:Int)],undef,undef,undef,undef,undef],defers:=[] } W
  gi_wp2_with (rw[Oper.semAt_eq _ _ _ (λc h=>by cases h)];go_simp)
  refine⟨KeepsOthers.alloc _ _,?_⟩;rintro W2 hg ⟨o,ho,YW⟩;have U1:=(Eh base qK w RT.out w.heap.size zl).alloc (.cells #[.int .u32 (x.a:Int),.int .u32 (x.b:Int),.int .u16 (x.p:Int),.int .u16 (x.q:Int),.int .u8 (x.r:Int)] 87) HI.out;have hI2:=Eh base qK w RT.out w.heap.size zl ks _ W2 (some l) U1 hg (λr e=>by cases e;exact⟨by have:=BO.out;simp at this;omega,o,ho,YW⟩);obtain⟨⟨v,C2,Qi⟩,aZ⟩:=hI2;obtain⟨hc2,Ob⟩:=jE C2
  have HX:Hid (aF W2 W.heap.size #[.int .u32 (x.a:Int),.int .u32 (x.b:Int),.int .u16 (x.p:Int),.int .u16 (x.q:Int),.int .u8 (x.r:Int)] 87) :=
   (aF.box W #[.int .u32 (x.a:Int),.int .u32 (x.b:Int),.int .u16 (x.p:Int),.int .u16 (x.q:Int),.int .u8 (x.r:Int)] 87).keep (hg.block _ zs (λe=>by have:=Gy.out;cases e;omega))
  obtain⟨x0,x1,x2,x3,x4⟩:=Ky.bZ HX.out;obtain⟨i0,hi,hz0,hz1,jc⟩:=info_parts My;have HV2:=hid C2;have Qj:=hid Qi;have dG:=hid aZ;clear C2 Qi aZ hg ho YW U1
  gi_wp2_with (first
   | (
     gi_at_builtin;refine wpListIn_append_own _ rfl _ _ 42 rfl base 87 i0 _ 5 16 II hi hz0 hz1 jc rfl zd _ _ _ rfl (Qj.out.alloc _) ⟨W2.heap.size,0,none⟩ 1 1 (k5 x) rfl rfl (RS W2 x 87) (RR x) (by have:=O_.out;have:=YV.out;rw[List.length_append];unfold maxLen;omega) (by have:=O_.out;have:=YV.out;rw[List.length_append];omega) (by have:=dG.out.size;have:=RT.out;simp;omega) ?_;intro v' w3 hown JY _
     obtain⟨CF,Xi,RU⟩:=Pd RT.out HV2.out Qj.out dG.out _ hown JY
     obtain⟨hc3,hf3⟩:=jE CF
     obtain⟨g',cap',rfl⟩:∃g' cap',v' = .slice (some ⟨g',0,none⟩) ((qK++ks).length+1) cap':=by
      rcases hown.2 with⟨_,h⟩ | ⟨g,cap,cur,h,_⟩
      ·exact absurd h zo
      ·exact⟨g,cap,h⟩
     simp only[List.length_append]at Xi RU
     have sY:=hid Xi
     have Xj:=hid RU
     clear hown JY CF Xi RU
     go_frame)
   | (rw[Oper.semAt_eq _ _ _ (λc h=>by cases h)];go_simp))
  exact⟨sY.out,Xj.out⟩
 ·intro D ks W hD hS hI hK;obtain⟨⟨v,hv,ho⟩,hb⟩:=hI
  have hcell:W.cell? ⟨w.heap.size,0,none⟩=some v:=by simp[World.cell?,hv]
  gi_wp2
  refine⟨by simp,.inl ⟨_,_,rfl,run_takeDeferred hK,?_⟩⟩;have hg:=grownBy_putObj' W D (.deferred none);exact⟨_,results_tmp rfl _ _ _,v,ks,rfl,hS,vD ho hg (λr e=>by cases e;exact⟨_,hK,rfl⟩),hb.grown hg (Nat.le_trans RT.out hb.size) (λk e=>by cases e;have:=RT.out;simp at hD;omega)⟩
theorem Mz(M:Nat)(w:World):Calls Tryz.prog 120 #[.map (some M)] w λe w' =>
  e = .returned (.func (.func 175) #[] #[.pointer (some ⟨w.heap.size,0,none⟩)])/\w'=w.alloc (.cells #[.map (some M)] 133):=by
 go_in
 go_wp2_with fail
 go_ret
 exact⟨rfl,rfl⟩
theorem MA{w:World}{Bm M:Nat}{fs:List Fl}(hm:w.cell? ⟨Bm,0,none⟩=some (.map (some M)))(hM:MapAt w M fs)(hN:fs.length<=100000)(base:Nat)(hbase:base<=w.heap.size)(A0:Option Addr)(n0 c0:Nat)(qK:List ak.Ke)(hn0:qK.length=n0)(hl0:n0<=1000000)(hown:w.ownsRow base 87 5 (.slice A0 n0 c0) n0 (rD qK)) :
  Calls Tryz.prog 119 #[.slice A0 n0 c0,.func (.func 175) #[] #[.pointer (some ⟨Bm,0,none⟩)]] w λe w' =>
   ∃(v:Value) (ks:List ak.Ke),e = .returned v/\ks.Perm (fs.map (·.k))/\w'.ownsRow base 87 5 v (qK++ks).length (rD (qK++ks))/\Below base w w' :=
 callsIn_wide.1 (Ei 3 zo w _ _ (λargs w=>rfl) _ fs.length hN (IJ hm hM 2 zo) base hbase A0 n0 c0 qK hn0 hl0 hown)
end Tb
namespace Tb
open Au (KO iN CI tK kY eG eG.Uj eG.keep eG.Ct eG.swap eG.put qF Ui pP rY Cu Cv swaps lS yb yc Uk qG whole)
open Go.Shelf
open Go.Sort hiding Below
open ak (Ke)
theorem MD{ks ls:List Ke}(h:ks.Perm ls)(hl:ls.length<=1):ks=ls:=by
 match ls,hl with
 | [],_=>exact List.perm_nil.1 h
 | [k],_=>exact List.perm_singleton.1 h
theorem IQ:∃i,Tryz.prog.info? 42=some i/\i.desc = .slice 87:=⟨_,rfl,by kernel_rfl⟩
theorem IR:∃i,Tryz.prog.info? 87=some i:=⟨_,rfl⟩
theorem Ek(w:World)(os:Array Obj):Below w.heap.size w (Sort.grow w os) :=
 ⟨rfl,rfl,rfl,by simp[Sort.grow],λk hk=>by simp[Sort.grow,Array.getElem?_append_left hk]⟩
theorem Xw:Tryz.prog.funcs.findIdx? (λx=>x.name == "internal/reflectlite" ++ ".Swapper$" ++ toString 1)=some 224:=zk
theorem Xx:Tryz.prog.funcs.findIdx? (λx=>x.name == "internal/reflectlite" ++ ".Swapper$" ++ toString 2)=some 225:=zk
theorem ME(p:Option Addr)(n c:Nat)(h:n<=1)(lf:Fn)(la lb:Array Value)(w:World) :
  Calls Tryz.prog 121 #[.iface 42 (.slice p n c),.func lf la lb] w λe w'=>e = .returned (.tuple #[])/\Below w.heap.size w w':=by
 obtain⟨i,hi,hd⟩:=IQ
 obtain⟨ie,hie⟩:=IR
 have key:∀f,Tryz.prog.funcs.findIdx? (·.name == "internal/reflectlite" ++ ".Swapper$" ++ toString (swapperK n ie 25))=some f->Calls Tryz.prog 121 #[.iface 42 (.slice p n c),.func lf la lb] w λe w'=>e = .returned (.tuple #[])/\Below w.heap.size w w':=by
  intro f hf;refine(Any.sort_Slice_tiny Tryz.laysGg6 42 87 i ie hi hd zk hie 25 (λw=>by kernel_rfl) p n c h f hf lf la lb w).mono ?_;rintro e w' ⟨rfl,os,rfl⟩;exact⟨rfl,Ek _ _⟩
 rcases Nat.eq_zero_or_pos n with h0 | h0
 ·subst h0;exact key 224 Xw
 ·obtain rfl:n=1:=zo;exact key 225 Xx
theorem IU{W W':World}{base:Nat}{e:TypeId}{size:Nat}{v:Value}{k:Nat}{xs:List Value}(h:W.ownsRow base e size v k xs)(hb:Below W.heap.size W W'):W'.ownsRow base e size v k xs :=
 h.kept (row:=none) ⟨hb.1,hb.2,hb.3,hb.4,λk hk _=>hb.5 k hk⟩ (by
  rcases h.2 with⟨rfl,_⟩ | ⟨g,cap,cur,rfl,_⟩
  ·exact .inl rfl
  ·exact .inr (by simp[Value.ownBlock]))
theorem MF{blk cb m n cap:Nat}{W:World}{d:Array KO}(H:eG blk cb m n cap W d)(hn:n<4611686018427387904)(i j:Nat)(hi:i<n)(hj:j<n) :
  Calls Tryz.prog 122 (#[.int .i64 i,.int .i64 j] ++ #[.pointer (some ⟨cb,0,none⟩)]) W λe w'=>e = .returned (.bool (CI d[i]! d[j]!))/\Below W.heap.size W w':=by
 have Hi:=hid hi
 have Hj:=hid hj
 have HR:=hid H
 have HL:Hid (∀W,Calls Tryz.prog 123 #[.agg (Ky.eI d[i]!.1.a d[i]!.1.b d[i]!.1.p d[i]!.1.q d[i]!.1.r),.agg (Ky.eI d[j]!.1.a d[j]!.1.b d[j]!.1.p d[j]!.1.q d[j]!.1.r)] W λe w'=>e = .returned (.bool (CI d[i]! d[j]!))/\Below W.heap.size W w'):=λW =>
  Ky.JR _ _ _ _ _ _ _ _ _ _ d[i]!.2.p d[i]!.2.q d[j]!.2.p d[j]!.2.q _ (pP _ _) W
 clear H
 go_in
 go_wp2_with fail
 refine wp_region_held_drew (S:=λw'=>eG blk cb m n cap w' d/\Below W.heap.size W w') zk (⟨HR.out.Ct (Below.refl _ W).drew,(Below.refl _ W).drew⟩) (λhH=>?_)
 refine zqt 0 (some 6) ?v1 rfl rfl ?c1 hH ?r1
 case c1=>(intro w' hS;have cb:=hS.1.box;go_simp;(try with_reducible rfl))
 try simp only[zq]
 refine zr 1 7 hH ?_
 try simp only[zq]
 refine zqt 2 (some 8) ?v3 rfl rfl ?c3 hH ?r3
 case c3=>(intro w' hS;have hv:=Hi.out;go_simp;(try with_reducible rfl))
 try simp only[zq]
 refine zqt 3 (some 9) ?v4 rfl rfl ?c4 hH ?r4
 case c4=>(intro w' hS;obtain⟨x0,x1,x2,x3,x4⟩:=hS.1.Uj i Hi.out;go_simp;(try with_reducible rfl))
 try simp only[zq]
 refine zqt 4 (some 10) ?v5 rfl rfl ?c5 hH ?r5
 case c5=>(intro w' hS;have cb:=hS.1.box;go_simp;(try with_reducible rfl))
 try simp only[zq]
 refine zr 5 11 hH ?_
 try simp only[zq]
 refine zqt 6 (some 12) ?v7 rfl rfl ?c7 hH ?r7
 case c7=>(intro w' hS;have hv:=Hj.out;go_simp;(try with_reducible rfl))
 try simp only[zq]
 refine zqt 7 (some 13) ?v8 rfl rfl ?c8 hH ?r8
 case c8=>(intro w' hS;obtain⟨x0,x1,x2,x3,x4⟩:=hS.1.Uj j Hj.out;go_simp;(try with_reducible rfl))
 try simp only[zq]
 refine zrd 8 (λK hK=>?_)
 go_simp
 refine(HL.out _).mono ?_
 rintro e w2 ⟨rfl,cz⟩
 refine hK.out _ _ (⟨hH.1.Ct cz,rY hH.2 cz⟩) (λhH=>?_)
 clear hK K
 clear cz
 try simp only[zq]
 refine zr 9 5 hH ?_
 try simp only[zq]
 refine wpAnyH_done zk ?_ _
 have HB:=hid hH.2
 clear hH
 go_wp2_with fail
 go_ret
 exact⟨rfl,HB.out⟩
theorem IV(blk cb m n cap:Nat)(hne:cb≠blk)(j1:blk<m)(hn:n<4611686018427387904) :
  VA Tryz.prog (eG blk cb m n cap) blk m n CI 122 #[.pointer (some ⟨cb,0,none⟩)] 232 #[.slice (some ⟨blk,0,none⟩) n cap,typeHandle Tryz.prog 87] where
 small:=hn
 size:=λH=>H.size
 bm:=j1
 at_:=λH=>H.le
 keep:=λH h hs=>H.keep h hs
 enters:=λargs w=>rfl
 less:=λi j H hi hj=>MF H hn i j hi hj
 swap:=fun {W d} i j H hi hj=>⟨_,swaps blk n cap W d H.holds H.size i j hi hj,(H.swap hne i j hi hj).1,(H.swap hne i j hi hj).2⟩
theorem IW(blk cb m n cap:Nat)(hne:cb≠blk)(hn:n<4611686018427387904) :
  So.Qk (eG blk cb m n cap) blk n #[.pointer (some ⟨cb,0,none⟩)] #[.slice (some ⟨blk,0,none⟩) n cap,typeHandle Tryz.prog 87] 122 232 where
 brk:=fun {W d} lo hi H h1 h2=>by
  have hs:=H.size;subst hs;refine(Any.breakPatterns_func_cells_w (P:=Tryz.prog) { Tryz.laysGg6 with } iN 5 kY _ _ _ _ _ blk 0 lo hi d W (swaps blk d.size cap) H.holds (Nat.lt_of_lt_of_le H.bm H.le) h1 h2 hn).mono ?_;rintro e w' ⟨rfl,q,os,rfl⟩;exact⟨rfl,lS H hne (breakPatterns_holds d lo hi h1 h2).1 q os⟩
 rev:=fun {W d} lo hi H h1 h2=>by
  have hs:=H.size;subst hs;refine(Any.reverseRange_func_cells_w (P:=Tryz.prog) { Tryz.laysGg6 with } iN 5 kY _ _ _ _ _ blk 0 lo hi d W (swaps blk d.size cap) H.holds (Nat.lt_of_lt_of_le H.bm H.le) h1 h2 hn).mono ?_;rintro e w' ⟨rfl,q,os,rfl⟩;exact⟨rfl,lS H hne (reverseRange_holds d lo hi h1 h2).1 q os⟩
theorem IX{blk cb n cap:Nat}{W:World}{d:Array KO}(H:eG blk cb W.heap.size n cap W d)(hne:cb≠blk)(h2:2<=n)(hn:n<4611686018427387904) :
  Calls Tryz.prog 121 #[.iface 42 (.slice (some ⟨blk,0,none⟩) n cap),.func (.func 122) #[] #[.pointer (some ⟨cb,0,none⟩)]] W λe w'=>e = .returned (.tuple #[]) ∧
   ∃d':Array KO,eG blk cb W.heap.size n cap w' d'/\iG blk W w'/\d'.toList.Perm d.toList/\SortedIn CI 0 n d':=by
 obtain⟨i,hi,hd⟩:=yc
 obtain⟨ie,hie,hp,hby⟩:=yb
 have hK:swapperK n ie 25=9:=by
  unfold swapperK;rw[if_neg zt,if_neg zt];simp[hp,hby]
 have jp:=H.bm
 refine Any.sort_Slice_of_pdq Tryz.laysGg6 42 87 i ie hi hd zk hie 25 (λw=>by kernel_rfl) (some ⟨blk,0,none⟩) n cap hn 232 (by rw[hK];exact Uk) _ _ _ W _ ?_
 have hsb:sliceBound Tryz.prog 87 ie 25 (some ⟨blk,0,none⟩) n cap = #[.slice (some ⟨blk,0,none⟩) n cap,typeHandle Tryz.prog 87]:=by
  unfold sliceBound;rw[hK,if_neg zo]
 rw[hsb]
 obtain⟨W1,oo⟩:∃W1,W1=sliceWorld Tryz.prog Tryz.laysGg6_ren 42 (some ⟨blk,0,none⟩) n cap W:=⟨_,rfl⟩
 have aK:Below W.heap.size W W1:=by rw[oo];unfold sliceWorld;exact((Below.refl _ W).alloc zl _).alloc zs _
 rw[← oo]
 have H1:eG blk cb W.heap.size n cap W1 d:=H.keep (λj hj=>aK.block j hj) aK.size
 refine(So.Pf tK (IV blk cb W.heap.size n cap hne jp hn) (IW blk cb W.heap.size n cap hne hn) (n+1) W1 d 0 n (Lib.bitLen n) zo H1 zo zl (qG n) (.inl rfl)).mono ?_
 rintro e w' ⟨rfl,ha,a_⟩
 obtain⟨hP,hS⟩:=pdq_holds insertionSort_holds heapSort_holds partialInsertionSort_holds (partition_holds CI) (partitionEqual_holds CI) reverseRange_holds tK d 0 n (Lib.bitLen n) true true zo (by rw[H.size];exact Nat.le_refl _) (.inl rfl)
 refine⟨rfl,_,ha,(iG.aS aK).trans a_,?_,hS⟩
 have Ul:=hP.2.2
 rw[whole d n H.size,whole _ n (hP.1.trans H.size)]at Ul
 exact Ul
end Tb
namespace Tb
open Au (KO iN CI tK kY eG eG.Uj eG.keep eG.Ct eG.swap eG.put qF Ui pP rY)
open bJ
open bg (Ms)
open Me (ptr)
open Go.Shelf
open Go.Sort hiding Below
def Um(W:World)(base:Nat)(p:Option Addr)(ks:List ak.Ke):Prop:=0<ks.length->∃g,p=some ⟨g,0,none⟩/\base<=g/\g<W.heap.size/\∀i k,ks[i]? = some k->Ui W g i k
theorem FE(ks:List ak.Ke)(i u:Nat)(k:ak.Ke)(h:ks[i]? = some k)(hu:u<5):(rD ks)[i*5+u]? = (k5 k)[u]?:=by
 induction ks generalizing i with
 | nil=>cases h
 | cons x ks ih =>
  have e:rD (x::ks)=k5 x++rD ks:=rfl
  rw[e]
  cases i with
  | zero =>
   obtain rfl:x=k:=Option.some.inj h
   rw[Nat.zero_mul,Nat.zero_add,List.getElem?_append_left (by show u<5;exact hu)]
  | succ i =>
   rw[List.getElem?_append_right (by show 5<=(i+1)*5+u;omega)]
   rw[show(i+1)*5+u - (k5 x).length=i*5+u by show(i+1)*5+u - 5=i*5+u;omega]
   exact ih i h
theorem ik{W:World}{g cap n:Nat}{cur:Array Value}{t:TypeId}{ks:List ak.Ke}(hb:W.heap[g]? = some (.cells cur t (0,0)))(ht:cur.toList.take (n*5)=rD ks)(hn:ks.length=n)(i u:Nat)(k:ak.Ke)(h:ks[i]? = some k)(hu:u<5):W.cell? ⟨g,i*5+u,none⟩=(k5 k)[u]?:=by
 have hi:i<ks.length:=(List.getElem?_eq_some_iff.1 h).1;have h1:=FE ks i u k h hu;rw[← ht,List.getElem?_take_of_lt zo]at h1;rw[cell_of_row W g _ _ _ _ hb,← h1];simp
theorem R3{W:World}{g i:Nat}{k:ak.Ke}(h:∀u,u<5->W.cell? ⟨g,i*5+u,none⟩=(k5 k)[u]?):Ui W g i k :=
 ⟨h 0 zo,h 1 zo,h 2 zo,h 3 zo,h 4 zo⟩
theorem Ph{W:World}{base n:Nat}{p:Option Addr}{c:Nat}{ks:List ak.Ke}(h:W.ownsRow base 87 5 (.slice p n c) n (rD ks))(hn:ks.length=n):Um W base p ks:=by
 intro hp
 rcases h.2 with⟨_,h0⟩ | ⟨g,cap,cur,e,Xy,hb,_,_,_,ht⟩
 ·omega
 ·injection e with e1 _ _;subst e1;exact⟨g,rfl,Xy,(Array.getElem?_eq_some_iff.1 hb).1,λi k hk=>R3 λu hu=>ik (cap:=cap) hb ht hn i u k hk hu⟩
theorem Pj(ks:List ak.Ke)(h:∀k∈ks,k.Ok):∃d:List KO,d.map (·.1)=ks:=by
 induction ks with
 | nil=>exact⟨[],rfl⟩
 | cons k ks ih =>
  obtain⟨d,hd⟩:=ih λx hx=>h x (List.mem_cons_of_mem _ hx)
  exact⟨⟨k,h k List.mem_cons_self⟩::d,by rw[List.map_cons,hd]⟩
theorem IY{W:World}{g cap n:Nat}{cur:Array Value}{t:TypeId}{d:List KO}(hb:W.heap[g]? = some (.cells cur t (0,0)))(ht:cur.toList.take (n*5)=rD (d.map (·.1)))(hn:d.length=n):HoldsK iN 5 W g 0 d.toArray:=by
 intro q hq
 have CJ:q<d.toArray.size*5:=by simpa using hq
 have hq3:q<d.length*5:=by simpa using CJ
 have hi:q / 5<d.length:=zo;rw[get_flatK iN 5 d.toArray q CJ];refine⟨?_,by simp[World.frozen?,hb]⟩
 have h1:(d.map (·.1))[q / 5]? = some d[q / 5].1:=by rw[List.getElem?_map,List.getElem?_eq_getElem hi];rfl
 have h2:=ik (cap:=cap) hb ht (by rw[List.length_map];exact hn) (q / 5) (q % 5) _ h1 zo;rw[show q / 5*5+q % 5=q by omega]at h2;rw[Nat.zero_add,h2]
 have e:d.toArray[q / 5]! = d[q / 5]:=by simp[hi]
 rw[e];have hm:q % 5<5:=zo
 obtain h | h | h | h | h:q % 5=0\/q % 5=1\/q % 5=2\/q % 5=3\/q % 5=4:=zo
 all_goals rw[h];rfl
theorem Cw{fs:List Fl}{n:Nat}{d d':Array KO}{ks:List ak.Ke}(ho:dN fs)(hk:ks.Perm (fs.map (·.k)))(hd:d.toList.map (·.1)=ks)(hp:d'.toList.Perm d.toList)(hs:SortedIn CI 0 n d')(hn:d'.size=n):d'.toList.map (·.1)=fs.map (·.k):=by
 refine pQ ho (((hp.map (·.1)).trans (by rw[hd])).trans hk) ?_;rw[List.pairwise_map,List.pairwise_iff_getElem];intro i j hi hj hij;have h:=hs i j (Nat.zero_le _) hij (by rw[← hn];simpa using hj);unfold CI at h
 have hj2:j<d'.size:=by simpa using hj
 have hi2:i<d'.size:=by simpa using hi
 rw[getElem!_pos d' i hi2,getElem!_pos d' j hj2]at h;simpa using h
def flat(ps:Nat->List Fl)(j:Nat):List Fl:=(List.range j).flatMap ps
theorem rZ(ps:Nat->List Fl)(j:Nat):flat ps (j+1)=flat ps j++ps j:=by
 unfold flat;rw[List.range_succ,List.flatMap_append,List.flatMap_cons,List.flatMap_nil,List.append_nil]
theorem aax(c:ak.Ke->Nat)(i:Nat)(f:Fl)(fs:List Fl):fC c i (f::fs)=if c f.k=i then f::fC c i fs else fC c i fs:=by
 unfold fC;rw[List.filter_cons];by_cases h:c f.k=i
 ·rw[if_pos (by simpa using h),if_pos h]
 ·rw[if_neg (by simpa using h),if_neg h]
theorem aa'(c:ak.Ke->Nat)(f:Fl)(fs:List Fl):∀n,n<=c f.k->flat (λi=>fC c i (f::fs)) n=flat (λi=>fC c i fs) n:=by
 intro n
 induction n with
 | zero=>intro _;rfl
 | succ n ih =>
  intro h
  rw[rZ,rZ,ih zo,aax,if_neg zo]
theorem abb(c:ak.Ke->Nat)(f:Fl)(fs:List Fl):∀n,c f.k<n->(flat (λi=>fC c i (f::fs)) n).Perm (f::flat (λi=>fC c i fs) n):=by
 intro n
 induction n with
 | zero=>intro h;omega
 | succ n ih =>
  intro h
  rw[rZ,rZ]
  by_cases e:c f.k=n
  ·rw[aa' c f fs n zo,aax,if_pos e];exact List.perm_middle
  ·rw[aax,if_neg e];exact(ih zo).append_right _
theorem abz(c:ak.Ke->Nat)(n:Nat)(hc:∀k,c k<n)(fs:List Fl):(flat (λi=>fC c i fs) n).Perm fs:=by
 induction fs with
 | nil =>
  have:∀n,flat (λi=>fC c i ([]:List Fl)) n=[]:=by
   intro n
   induction n with
   | zero=>rfl
   | succ n ih=>rw[rZ,ih];rfl
  rw[this]
 | cons f fs ih=>exact(abb c f fs n (hc f.k)).trans (ih.cons f)
theorem MG(ps:Nat->List Fl){i m:Nat}(h:i<m):(flat ps i).length+(ps i).length<=(flat ps m).length:=by
 induction m with
 | zero=>omega
 | succ m ih =>
  rw[rZ,List.length_append]
  by_cases e:i=m
  ·subst e;exact Nat.le_refl _
  ·have:=ih zo;omega
structure SK(w0:World)(ps:Nat->List Fl)(j:Nat)(A:Option Addr)(n c:Nat)(ks:List ak.Ke)(W:World):Prop where
 box:W.heap[w0.heap.size]? = some (.cells #[.slice A n c] 42 (0,0))
 row:W.ownsRow (w0.heap.size+1) 87 5 (.slice A n c) n (rD ks)
 len:ks.length=n
 perm:ks.Perm ((flat ps j).map (·.k))
 az:Below w0.heap.size w0 W
theorem vF(w:World)(S off m c:Nat)(M:Nat->Nat)(ps:Nat->List Fl)(gs:List Fl)(hm:m<=4096)(hmc:m<=c/\c<=4096)(hS:S<w.heap.size)(hrow:∀i,i<m->w.cell? ⟨S,off+i,none⟩=some (.map (some (M i))))(hmap:∀i,i<m->MapAt w (M i) (ps i))(ho:dN gs)(hp:(flat ps m).Perm gs)(hl:gs.length<=100000) :
  Calls Tryz.prog 84 #[.slice (some ⟨S,off,none⟩) m c] w λe w'=>∃p c',e = .returned (.slice p gs.length c')/\(gs.length<=c'/\c'<=9223372036854775807)/\Um w' w.heap.size p (gs.map (·.k))/\Below w.heap.size w w':=by
 have Ht:=hid hrow
 have Un:=hid hmap
 have HS:=hid hS
 have HO:=hid ho
 have HP:=hid hp
 have HL:=hid hl
 have Y8:Hid (∀i,i<m->(flat ps i).length+(ps i).length<=100000):=λi hi=>by have h1:=MG ps hi;have h2:=hp.length_eq;omega
 have h0:SK w ps 0 none 0 0 [] (w.alloc (.cells #[.slice none 0 0] 42)):=⟨heap_alloc_new w _,⟨rfl,.inl ⟨rfl,rfl⟩⟩,rfl,List.Perm.refl _,ae _ _⟩
 have H0:=hid h0
 obtain⟨aai,aaj⟩:=hmc
 clear hrow hmap ho hp hl h0 hS
 go_in
 go_wp2_with fail
 go_loopw [8] (λvi wr=>∃(j:Nat) (A:Option Addr) (n c':Nat) (ks:List ak.Ke),vi = .int .i64 (j:Int)/\j<=m/\Hid (SK w ps j A n c' ks wr)) (λvi _=>m - (RowKit.intOf vi).toNat)
 case atStart=>exact⟨0,none,0,0,[],rfl,Nat.zero_le _,H0⟩
 case round =>
  clear H0;obtain⟨j,A,n,c2,ks,rfl,hj,HK⟩:=hrel;by_cases h1:j<m
  ·as_aux_lemma =>
    have cm:=(HK.out.az.cell (p:=⟨S,off+j,none⟩) HS.out).trans (Ht.out j h1)
    have Xz:=hid ((Un.out j h1).keep (HK.out.az.block _ (Un.out j h1).lt))
    have Y9:Hid ((ps j).length<=100000):=by show _<=_;have:=Y8.out j h1;omega
    have HN:Hid (n<=1000000):=by show _<=_;have h2:=Y8.out j h1;have h3:=HK.out.perm.length_eq;have h4:=HK.out.len;rw[List.length_map]at h3;omega
    go_wp2_with fail
    clear cm
    refine iz (S:=λw'=>Hid (w'.heap[w.heap.size]? = some (.cells #[.slice A n c2] 42 (0,0)))) 4 zk (hid HK.out.box) (λhH=>?_)
    refine dU (i:=0) (oi:=⟨some 12,_,_,_,_,_⟩) (v:=?v1) rfl zk zk zk zk zh (Or.inl ⟨rfl,?c1⟩) hH ?r1
    case c1=>(intro w' hS;have y0:=(jE hS.out).1;go_simp;(try with_reducible rfl))
    try simp only[zq]
    refine eS 1 13 hH ?_
    try simp only[zq]
    refine bu (rs:=[2]) zk zs (eW.cons rfl (λK hK=>?_) (eW.nil))
    go_simp
    refine(Mz (M j) _).mono ?_
    rintro e w2 ⟨rfl,uO⟩
    have SH:Hid (Below wr.heap.size wr w2):=by show Below _ _ _;rw[uO];exact(Below.refl _ wr).drew.alloc zl _
    have PR:Hid (w2.cell? ⟨wr.heap.size,0,none⟩=some (.map (some (M j)))):=by show _=_;rw[uO];exact(aF.box wr.drew #[.map (some (M j))] 133).cell 0 _ rfl
    clear uO
    refine hK.out _ _ (hid ((SH.out.block _ (Array.getElem?_eq_some_iff.1 HK.out.box).1).trans HK.out.box)) (λhH=>?_)
    clear hK K
    try simp only[zq]
    refine bu (rs:=[3]) zk zs (eW.cons rfl (λK hK=>?_) (eW.nil))
    go_simp
    refine(MA (base:=w.heap.size+1) PR.out ((Xz.out).keep (SH.out.block _ Xz.out.lt)) Y9.out (Nat.le_trans (by have:=(Array.getElem?_eq_some_iff.1 HK.out.box).1;omega) SH.out.size) A n c2 ks HK.out.len HN.out (bf HK.out.row λg e=>SH.out.block g (HK.out.row.lt g e).2)).mono ?_
    rintro e w3 ⟨v3,Uo,rfl,Ul,hr3,eP⟩
    obtain⟨A3,c3,rfl,-,-⟩:=cO hr3
    rw[List.length_append,HK.out.len]at hr3
    rw[List.length_append,HK.out.len]
    refine hK.out _ _ (hid ((eP.block _ (Nat.lt_succ_self _)).trans hH.out)) (λhH=>?_)
    clear hK K
    have Y_:=hid Ul
    have iX:=hid hr3
    have fF:=hid eP
    clear Ul hr3 eP
    try simp only[zq]
    refine bu (rs:=[4]) zk zs (eW.end_ rfl (λK hK=>?_))
    have y0:=(jE hH.out).1
    have f0:=(jE hH.out).2
    go_simp
    clear y0 f0
    refine hK.out _ _ ?_
    clear hK K
    try simp only[zq]
    refine gm zk ?_ _
    have HSK:Hid (SK w ps (j+1) A3 (n+Uo.length) c3 (ks++Uo) (w3.setCell ⟨w.heap.size,0,none⟩ (.slice A3 (n+Uo.length) c3))):=by
     have eP:Below w.heap.size w w3:=(HK.out.az.trans (SH.out.mono HK.out.az.size)).trans (fF.out.mono (Nat.le_succ _));refine⟨FB _ hH.out,bf iX.out λg e=>Below.heap_setCell _ _ _ _ (λe2=>by have h5:=(iX.out.lt g e).1;have e3:g=w.heap.size:=e2;omega),by rw[List.length_append,HK.out.len],?_,eP.setCell (p:=⟨w.heap.size,0,none⟩) zl _⟩;rw[rZ,List.map_append];exact HK.out.perm.append Y_.out
    clear hH Y_ iX fF PR SH Xz Y9 HN
    go_wp2_with fail
    go_roundw
    case rel=>exact⟨j+1,A3,n+Uo.length,c3,ks++Uo,by go_num,by omega,HSK⟩
    case measure=>simp[RowKit.intOf];omega
  ·obtain rfl:j=m:=zo
   have Y':n=gs.length:=by have h3:=HK.out.perm.length_eq;have h4:=HK.out.len;have h5:=HP.out.length_eq;rw[List.length_map]at h3;omega
   have PY:=hid Y'
   have R4:Hid (n<=c2/\c2<=9223372036854775807):=by
    obtain⟨A',c',e,h1,h2⟩:=cO HK.out.row;injection e with _ _ e;subst e;exact⟨h1,h2⟩
   have El:ks.Perm (gs.map (·.k)):=HK.out.perm.trans (HP.out.map _);have R5:=hid El;have iM:=(jE HK.out.box).1;clear El Y';by_cases h2:n<=1
   ·have hk:=MD R5.out (by rw[List.length_map,← PY.out];exact h2);have HKY:=hid hk;clear hk;go_wp2_with fail;clear iM;refine(ME A n c2 h2 _ _ _ _).mono ?_;rintro e w3 ⟨rfl,hb⟩;have iM:=(jE ((hb.block _ (Array.getElem?_eq_some_iff.1 HK.out.box).1).trans HK.out.box)).1;have iX:=hid (IU HK.out.row hb);have fF:=hid (HK.out.az.trans (hb.mono HK.out.az.size));clear hb;go_wp2_with fail;go_ret;refine⟨A,c2,by rw[← PY.out];rfl,PY.out▸R4.out,?_,fF.out⟩;have h:=Ph iX.out HK.out.len;rw[HKY.out]at h;intro mo;obtain⟨g,e1,e2,e3,e4⟩:=h mo;exact⟨g,e1,by omega,e3,e4⟩
   ·have hok:∀k∈ks,k.Ok:=λk hk=>by
     obtain⟨f,hf,rfl⟩:=List.mem_map.1 (R5.out.mem_iff.1 hk);exact(HO.out.ok f hf).k
    obtain⟨d,hd⟩:=Pj ks hok
    rcases HK.out.row.2 with⟨_,h0⟩ | ⟨g,cap,cur,hv,Xy,hgb,hle,hcm,hsz,ht⟩
    ·exact absurd h0 zo
    injection hv with hv1 _ CF;subst hv1 CF;have UD:g<wr.heap.size:=(Array.getElem?_eq_some_iff.1 hgb).1
    have hdn:d.length=n:=by rw[← HK.out.len,← hd,List.length_map]
    have HR:Hid (eG g w.heap.size wr.heap.size n c2 wr d.toArray) :=
     ⟨IY (cap:=c2) hgb (by rw[hd];exact ht) hdn,by simpa using hdn,iM,Nat.le_refl _,UD,(Array.getElem?_eq_some_iff.1 HK.out.box).1⟩
    have HS:=hid (IX HR.out zo zo (by have:=PY.out;have:=HL.out;omega))
    have tf:Hid (∀w4 (d':Array KO),eG g w.heap.size wr.heap.size n c2 w4 d'->iG g wr w4->d'.toList.Perm d.toArray.toList->SortedIn CI 0 n d' →
      Um w4 w.heap.size (some ⟨g,0,none⟩) (gs.map (·.k))/\Below w.heap.size w w4):=by
     intro w4 d' hr a_ El Pm
     have hks:=Cw HO.out R5.out (d:=d.toArray) (by simpa using hd) El Pm hr.size
     refine⟨λ_=>⟨g,rfl,by omega,by have:=hr.le;have:=hr.bm;omega,λi k hk=>?_⟩,HK.out.az.trans ((So.iG.Cs a_ zo HK.out.az.size))⟩
     rw[← hks,List.getElem?_map]at hk
     obtain⟨x,hx,rfl⟩:=Option.map_eq_some_iff.1 hk
     have hi:i<d'.size:=by have:=(List.getElem?_eq_some_iff.1 hx).1;simpa using this
     have h5:=hr.Uj i (by rw[← hr.size];exact hi)
     have e:d'[i]! = x:=by
      rw[getElem!_pos d' i hi];have:=(List.getElem?_eq_some_iff.1 hx).2;simpa using this
     rw[e]at h5
     exact h5
    clear hok hd Xy hgb hle hcm hsz ht UD hdn HR;go_wp2_with fail;clear iM;refine HS.out.mono ?_;rintro e w4 ⟨rfl,d',hr,a_,El,Pm⟩;have iM:=hr.box;obtain⟨f2,f3⟩:=tf.out w4 d' hr a_ El Pm;have F2:=hid f2;have F3:=hid f3;clear hr a_ El Pm f2 f3 tf HS;go_wp2_with fail;go_ret;exact⟨some ⟨g,0,none⟩,c2,by rw[← PY.out];rfl,PY.out▸R4.out,F2.out,F3.out⟩
theorem aaz(w:World)(S off m c:Nat)(M:Nat->Nat)(ps:Nat->List Fl)(gs:List Fl)(hm:m<=4096)(hmc:m<=c/\c<=4096)(hS:S<w.heap.size)(hrow:∀i,i<m->w.cell? ⟨S,off+i,none⟩=some (.map (some (M i))))(hmap:∀i,i<m->MapAt w (M i) (ps i))(ho:dN gs)(hp:(flat ps m).Perm gs)(hl:gs.length<=100000) :
  Calls Tryz.prog 84 #[.slice (some ⟨S,off,none⟩) m c] w λe w'=>∃p c',e = .returned (.slice p gs.length c')/\Um w' w.heap.size p (gs.map (·.k))/\Below w.heap.size w w' :=
 (vF w S off m c M ps gs hm hmc hS hrow hmap ho hp hl).mono λe w' ⟨p,c',h1,_,h2⟩=>⟨p,c',h1,h2⟩
end Tb
namespace Tb
open bJ
open cB (bN)
open bg (Ms ai)
open Me (ptr)
section
variable {w:Fw}{W:World}{Om Ot:Nat->Prop}{mb B:Nat}{ms:Ms}{n:Nat}{fs:List Fl}
theorem abI(H:TM w Om Ot mb B ms n fs W)(hl:fs.length<=100000):Calls Tryz.prog 45 #[ptr B] W λe w'=>∃p c,e = .returned (.slice p fs.length c)/\Um w' W.heap.size p (fs.map (·.k))/\Below W.heap.size W w':=by
 obtain⟨⟨S,M,htr⟩,ho,hp⟩:=H.dr;have hn:=H.dr.pos;have HS:=hid (aaz W S 0 n n M (λi=>part n i fs) fs hn.2 ⟨Nat.le_refl _,hn.2⟩ (htr.lt _ htr.os) (λi hi=>by rw[Nat.zero_add];exact htr.row i hi) htr.map ho (abz (gZ n) n (λk=>yB zo k) fs) hl);have c1:=htr.blk.cell 1 _ rfl;clear H htr ho hp hl;go_in;go_wp2_with fail;refine HS.out.mono ?_;rintro e w2 ⟨p,c,rfl,hk,hb⟩;have HK:=hid hk;have HB:=hid hb;clear hk hb;go_wp2_with fail;go_ret;exact⟨p,c,rfl,HK.out,HB.out⟩
theorem MH(H:TM w Om Ot mb B ms n fs W)(t s:Int)(hs:s<0\/(n:Int)<=s):Calls Tryz.prog 118 #[ptr B,.int .i64 t,.int .i64 s] W λe w'=>e = .returned (.tuple #[.slice none 0 0,.int .i64 1])/\W=w':=by
 obtain⟨⟨S,M,htr⟩,ho,hp⟩:=H.dr;have c1:=htr.blk.cell 1 _ rfl;by_cases h0:s<0
 ·have d1:decide (s<0)=true:=decide_eq_true h0;clear H htr ho hp hs h0;go_in;go_wp2_with fail;go_ret2;exact⟨rfl,rfl⟩
 ·have d1:decide (s<0)=false:=decide_eq_false h0;have d2:decide ((n:Int)<=s)=true:=decide_eq_true zo;clear H htr ho hp hs h0;go_in;go_wp2_with fail;go_ret2;exact⟨rfl,rfl⟩
theorem Pn(H:TM w Om Ot mb B ms n fs W)(t:Int)(i:Nat)(hi:i<n)(hh:eR ms t (i:Int)=false):Calls Tryz.prog 118 #[ptr B,.int .i64 t,.int .i64 (i:Int)] W λe w'=>e = .returned (.tuple #[.slice none 0 0,.int .i64 13])/\W=w':=by
 have HH:=hid (q8 H t (i:Int));rw[hh]at HH;obtain⟨⟨S,M,htr⟩,ho,hp⟩:=H.dr;have hn:=H.dr.pos;have c1:=htr.blk.cell 1 _ rfl;have d1:decide ((i:Int)<0)=false:=decide_eq_false zo;have d2:decide ((n:Int)<=(i:Int))=false:=decide_eq_false zo;clear H htr ho hp hh;go_in;go_wp2_with fail;refine HH.out.mono ?_;rintro e w2 ⟨rfl,rfl⟩;go_wp2_with fail;go_ret2;exact⟨rfl,rfl⟩
theorem MI(H:TM w Om Ot mb B ms n fs W)(hml:ms.ls.length<=1000000000000)(hl:fs.length<=100000)(t:Int)(i:Nat)(hi:i<n)(hh:eR ms t (i:Int)=true) :
  Calls Tryz.prog 118 #[ptr B,.int .i64 t,.int .i64 (i:Int)] W λe w'=>∃p c jG B0,e = .returned (.tuple #[.slice p (part n i fs).length c,.int .i64 0])/\((part n i fs).length<=c/\c<=9223372036854775807)/\Um w' B0 p ((part n i fs).map (·.k))/\(∀j,jG j->j<B0)/\W.heap.size<=B0/\TM w jG Ot mb B (ai ms t 5 (i:Int)) n fs w':=by
 have HH:=hid (q8 H t (i:Int))
 rw[hh]at HH
 have H1:=hid H
 obtain⟨⟨S,M,htr⟩,ho,hp⟩:=H.dr
 have hn:=H.dr.pos
 have V6:Hid ((part n i fs).length<=100000):=Nat.le_trans (List.length_filter_le _ _) hl
 have xE:=hid ho
 have Si:=hid hml
 have c0:=htr.blk.cell 0 _ rfl
 have c1:=htr.blk.cell 1 _ rfl
 have d1:decide ((i:Int)<0)=false:=decide_eq_false zo
 have d2:decide ((n:Int)<=(i:Int))=false:=decide_eq_false zo
 clear H htr ho hp hh hl hml
 go_in
 go_wp2_with fail
 refine HH.out.mono ?_
 rintro e w2 ⟨rfl,rfl⟩
 go_wp2_with fail
 clear c0 c1
 refine(Me.uc H1.out.mem t (i:Int) Si.out).mono ?_
 rintro e w3 ⟨MY,rfl,hp,ho,hO⟩
 have H3:=hid (H1.out.left hp ho hO)
 have VY:=hid ho.size
 have Gy:=hid H3.out.mem.lt
 clear hp ho hO H1
 obtain⟨⟨S,M,htr⟩,_⟩:=H3.out.dr
 have c1:=htr.blk.cell 1 _ rfl
 have Bj:=hid htr
 clear htr
 go_wp2_with fail
 clear c1
 refine(vF w3 S i 1 (n - i) (λ_=>M i) (λ_=>part n i fs) (part n i fs) zo ⟨by omega,by omega⟩ (Bj.out.lt _ Bj.out.os) (λj hj=>by obtain rfl:j=0:=zo;rw[Nat.add_zero];exact Bj.out.row i hi) (λ_ _=>Bj.out.map i hi) (fL xE.out _ _) (by rw[rZ];exact List.Perm.refl _) V6.out).mono ?_
 rintro e w4 ⟨p,c,rfl,hcb,hk,hb⟩
 have R4:=hid hcb
 have HK:=hid hk
 have H4:=hid (H3.out.next hb)
 clear hk hb hcb H3 Bj
 go_wp2_with fail
 go_ret2
 exact⟨p,c,MY,_,rfl,R4.out,HK.out,Gy.out,VY.out,H4.out⟩
end
end Tb
end Go.Proofs.YtbhnbcadgmagpaaGreatDoor
