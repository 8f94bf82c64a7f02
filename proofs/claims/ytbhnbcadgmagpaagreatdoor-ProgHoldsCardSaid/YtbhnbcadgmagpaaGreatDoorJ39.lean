import Derived.Test.YtbhnbcadgmagpaaGreatDoorBig
import Derived.Test.YtbhnbcadgmagpaaGreatDoorJ1
set_option linter.unusedVariables false
set_option linter.unusedSimpArgs false
namespace Go.aN
open Go Go.RowKit
variable {F:Fence}{n:Nat}{P:Program}
theorem o8{α:Type}{g:Operand}{p:Tmp}{assign body:Code}{Q:Exit->Act->World->Prop}{a:Act}{w:World}
  (hro:F.round=none) (h1:1<=n) {gf:Nat} {lb:Array Value} (hg:a.eval g = .func (.func gf) #[] lb) (hFg:F.fn gf) (eg:∀args w,(callFunc gf args).run P w = .ok (.enter gf args) w)
  {enc:α->Value} {S:List α->Prop} {N:Nat} {w0:World} (hseq:SeqGives F (n - 1) P gf lb enc S N w0) (hb0:Below w0.heap.size w0 w)
  (I:List α->World->Prop) (hI:OwnFrom w.heap.size I) (h0:I [] w)
  (RO:∀(l:Nat) (pre:List α) (x:α) (W:World),I pre W->pre.length<N->w.heap.size<=l->l<W.heap.size →
   assign.wpIn (F.inRound l) (n - 1 - 1) P (Exit.then (λa₁ RP=>KeepsOthers W RP/\∀RQ,RP.grownBy RQ (some l)->(∃o:Obj,RP.heap[l]? = some o/\o.isCells=false) →
    body.wpIn (F.inRound l) (n - 1 - 1) P (λe _ T6=>e = .normal/\KeepsOthers RQ T6/\I (pre++[x]) T6) a₁ RQ) (λ_ _ _=>False)) { tmps:=a.tmps.setIfInBounds p (enc x),defers:=[] } W)
  (hdone:∀(D:Nat) (xs:List α) (W:World),w.heap.size<=D->S xs->I xs W->W.heap[D]? = some (.deferred (some []))->Q .normal { a with defers:={ target:=.collected D,args:=#[] }::a.defers } W) :
  (Code.rangeFunc g #[p] assign body).wpIn F n P Q a w:=by
 refine wpIn_rangeFunc ?_
 intro fn hfn
 rw[hro]
 obtain⟨rec,Eg⟩:∃rec:LoopState->Loop,rec=λst=>{ state:=st,pending:=none,fn,tmps:=a.tmps,params:=#[p],assign,body,defers:=w.heap.size }:=⟨_,rfl⟩
 obtain⟨W1,oo⟩:∃W1,(w.alloc (.deferred (some []))).alloc (.loop (rec .ready))=W1:=⟨_,rfl⟩
 have hs1:W1.heap.size=w.heap.size+2:=by rw[← oo];simp
 have V4:W1.heap[w.heap.size+1]? = some (.loop (rec .ready)):=by
  rw[← oo];have:=World.alloc_heap_new (w.alloc (.deferred (some []))) (.loop (rec .ready));rwa [World.size_alloc]at this
 have hK1:W1.heap[w.heap.size]? = some (.deferred (some [])):=by
  rw[← oo];exact(Below.heap_alloc _ _ _ zs).trans (World.alloc_heap_new w _)
 have U1:I [] W1:=by rw[← oo];exact hI.alloc _ (hI.alloc _ h0)
 have aK:Below w0.heap.size w0 W1:=by
  rw[← oo];exact hb0.trans ((((Below.refl _ w).alloc zl _).alloc zs _).mono hb0.size)
 refine⟨w.heap.size+1,[{ target:=.collected w.heap.size,args:=#[] }],W1,{ target:=.fn (.func gf) lb,args:=#[.func (.yield (w.heap.size+1)) #[] #[]] },W1,gf,
  #[.func (.yield (w.heap.size+1)) #[] #[]]++lb,W1,?_,?_,?_,?_,λ_=>h1,?_⟩
 ·rw[← oo,Eg];exact run_enterLoop_outer _ _ _ _ _
 ·simp only[resolve,hg];simp[go_sem]
 ·intro f' hf';simp[Target.leads]at hf';subst hf';exact hFg
 ·simp[invoke,go_sem,eg]
 ·refine(hseq (w.heap.size+1)
   (λpre W=>I pre W/\W.heap[w.heap.size+1]? = some (.loop (rec .ready))/\W.heap[w.heap.size]? = some (.deferred (some [])))
   W1 aK
   (λs A B row hs I0 hr=>⟨hI s A B row hs.1 I0 (λr e=>by obtain⟨hB,o,ho,hw⟩:=hr r e;exact⟨by omega,o,ho,Obj.not_cells_of_walk hw⟩),
    (grownBy_keeps I0 (λr e=>(hr r e).2) hs.2.1 rfl).trans hs.2.1,(grownBy_keeps I0 (λr e=>(hr r e).2) hs.2.2 rfl).trans hs.2.2⟩)
   ?_ ⟨U1,V4,hK1⟩).mono ?_
  ·rintro pre x W ⟨hi,hl,hk⟩ hlen;have hlt:w.heap.size+1<W.heap.size:=(Array.getElem?_eq_some_iff.1 hl).1;have hy:=run_yield (P:=P) (args:=#[enc x]) hl (by rw[Eg];rfl);rw[Eg]at hy;simp only[List.zip_toArray,List.zip_cons_cons,List.zip_nil_right,List.foldl_toArray',List.foldl_cons,List.foldl_nil,List.size_toArray,List.length_cons,List.length_nil]at hy;refine⟨fn,_,assign,body,hy,roundIn_of_wpIn hfn (wpIn_mono (RO (w.heap.size+1) pre x W hi hlen zo hlt) ?_)⟩;rintro e a1 Wa hp
   cases e with
   | normal =>
    obtain⟨hka,hbody⟩:=hp
    have hla:=hka.same _ _ hl rfl
    have hDa:=hka.same _ _ hk rfl
    have Xg:w.heap.size+1<Wa.heap.size:=(Array.getElem?_eq_some_iff.1 hla).1
    refine⟨_,run_beginRound hla (by rw[Eg]),?_⟩
    have qJ:(Wa.putObj (w.heap.size+1) (.loop { rec .ready with state:=.busy })).heap[w.heap.size+1]? = some (.loop { rec .ready with state:=.busy }):=World.putObj_heap_same Xg
    have hk2:(Wa.putObj (w.heap.size+1) (.loop { rec .ready with state:=.busy })).heap[w.heap.size]? = some (.deferred (some [])):=(World.putObj_heap_other zo).trans hDa
    refine wpIn_mono (hbody _ (grownBy_putObj' _ _ _) ⟨_,hla,rfl⟩) ?_
    rintro e a3 W3 ⟨rfl,SZ,hi3⟩
    have U2:=SZ.same _ _ qJ rfl
    have hD3:=SZ.same _ _ hk2 rfl
    have hend:=run_endRound (P:=P) none U2
    have uO:KeepsWalks Wa (Wa.putObj (w.heap.size+1) (.loop { rec .ready with state:=.busy })):=KeepsWalks.putObj _ hla rfl
    refine⟨_,_,hend,rfl,⟨hI.putObj _ hi3 zo U2 rfl,?_,(World.putObj_heap_other zo).trans hD3⟩,((hka.walks.trans uO).trans SZ.walks).trans (KeepsWalks.putObj _ U2 rfl)⟩
    have:=World.putObj_heap_same (o:=.loop (rec .ready)) (Array.getElem?_eq_some_iff.1 U2).1
    rw[Eg]at this ⊢
    exact this
   | ret=>exact hp.elim
   | exit id=>exact hp.elim
   | goto t=>exact hp.elim
   | panic ch=>exact hp.elim
   | outgrown=>exact hp.elim
  ·rintro e W2 ⟨⟨v,rfl⟩,xs,hS,hi,hl,hk⟩;exact⟨none,_,by have:=run_endLoop (P:=P) hl (by rw[Eg];simp);rw[Eg]at this;exact this,hdone _ xs _ zl hS (hI.putObj _ hi zo hl rfl) ((World.putObj_heap_other zo).trans hk)⟩
end Go.aN
