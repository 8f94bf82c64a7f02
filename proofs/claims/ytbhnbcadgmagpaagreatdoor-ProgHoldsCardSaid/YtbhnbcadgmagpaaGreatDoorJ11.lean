import Derived.Test.YtbhnbcadgmagpaaGreatDoorBig
import Derived.Test.YtbhnbcadgmagpaaGreatDoorJ1
import Derived.Test.YtbhnbcadgmagpaaGreatDoorJ3
import Derived.Test.YtbhnbcadgmagpaaGreatDoorRows
set_option linter.unusedVariables false
set_option linter.unusedSimpArgs false
set_option maxHeartbeats 8000000
set_option maxRecDepth 100000
namespace Go.bg
structure Ac where
 t:Int
 k:Int
 p:Int
deriving DecidableEq
structure Ms where
 ws:List Int
 hs:List Int
 ls:List Ac
structure Ok(s:Ms):Prop where
 w:∀x∈s.ws,0<=x/\x<=18446744073709551615
 h:∀x∈s.hs,-1<=x/\x<=9223372036854775807
 wl:s.ws.length<=1000000000000
 hl:s.hs.length<=1000000000000
def aQ(n:Int):Nat:=if n<0 then 0 else if 8192<n then 8192 else n.toNat
theorem qc(n:Int):aQ n<=8192:=by unfold aQ;split <;> (try split) <;> omega
def l7(a b:Int):Ms:=⟨List.replicate (aQ a) 0,List.replicate (aQ b) (-1),[]⟩
theorem fR(a b:Int):Ok (l7 a b):=by
 have h1:=qc a;have h2:=qc b;refine⟨λx hx=>?_,λx hx=>?_,by simp[l7];omega,by simp[l7];omega⟩
 ·obtain rfl:=List.eq_of_mem_replicate hx;omega
 ·obtain rfl:=List.eq_of_mem_replicate hx;omega
def has(n:Nat)(i:Int):Bool:=decide (0<=i/\i<n)
theorem c_{n:Nat}{i:Int}(h:has n i=true):∃j:Nat,i=(j:Int)/\j<n:=by
 have:=of_decide_eq_true h;exact⟨i.toNat,by omega,by omega⟩
theorem JS{n:Nat}{i:Int}(h:has n i=false):i<0\/(n:Int)<=i:=by
 have:=of_decide_eq_false h;omega
def at_(l:List Int)(i:Int):Int:=l.getD i.toNat 0
theorem mw(l:List Int)(j:Nat):at_ l (j:Int)=l.getD j 0:=rfl
theorem AL{l:List Int}{j:Nat}(h:j<l.length):l.getD j 0∈l:=by
 simp only[List.getD,List.getElem?_eq_getElem h,Option.getD_some];exact List.getElem_mem h
def say(s:Ms)(t k p:Int):Ms:={ s with ls:=s.ls++[⟨t,k,p⟩] }
def bD(s:Ms)(x:Int):Ms:={ s with ws:=s.ws++[x] }
def af(s:Ms)(i:Int):Int:=if has s.ws.length i then at_ s.ws i else 0
def bq(s:Ms)(t i:Int):Ms:=if has s.ws.length i then say s t 3 (3*i)else s
def ay(s:Ms)(i old:Int):Bool:=has s.ws.length i&&(at_ s.ws i==old)
def aP(s:Ms)(t i old now:Int):Ms :=
 if has s.ws.length i then(if at_ s.ws i=old then say { s with ws:=s.ws.set i.toNat now } t 4 (3*i)else say s t 3 (3*i))else s
def ag(s:Ms)(i:Int):Int:=if has s.hs.length i then at_ s.hs i else -1
def L4(s:Ms)(t i:Int):Bool:=decide (0<=t)&&has s.hs.length i&&(at_ s.hs i == -1)
def aH(s:Ms)(t i:Int):Ms:=if L4 s t i then say { s with hs:=s.hs.set i.toNat t } t 1 (3*i+1)else s
def d_(s:Ms)(t i:Int):Int:=if has s.hs.length i=false then 15 else if t<0\/at_ s.hs i≠t then 13 else 0
def aq(s:Ms)(t i:Int):Ms:=if d_ s t i=0 then say { s with hs:=s.hs.set i.toNat (-1) } t 2 (3*i+1)else s
def ai(s:Ms)(t k i:Int):Ms:=if 0<=i/\i<=1099511627776 then say s t k (3*i+2)else s
section
variable {s:Ms}
theorem Ok.Vf(h:Ok s){j:Nat}(hj:j<s.ws.length):0<=s.ws.getD j 0/\s.ws.getD j 0<=18446744073709551615:=h.w _ (AL hj)
theorem Ok.Qv(h:Ok s){j:Nat}(hj:j<s.hs.length) : -1<=s.hs.getD j 0/\s.hs.getD j 0<=9223372036854775807:=h.h _ (AL hj)
theorem Ok.say(h:Ok s)(t k p:Int):Ok (say s t k p):=⟨h.w,h.h,h.wl,h.hl⟩
theorem Ok.more(h:Ok s){x:Int}(hx:0<=x/\x<=18446744073709551615)(hl:s.ws.length<1000000000000):Ok (bD s x) :=
 ⟨λy hy=>by
  rcases List.mem_append.1 hy with hy | hy
  ·exact h.w y hy
  ·simp at hy;subst hy;exact hx,h.h,by simp[bD];omega,h.hl⟩
theorem Ok.Vg(h:Ok s){x:Int}(hx:0<=x/\x<=18446744073709551615)(j:Nat):Ok { s with ws:=s.ws.set j x } :=
 ⟨λy hy=>by
  rcases List.mem_or_eq_of_mem_set hy with hy | rfl
  ·exact h.w y hy
  ·exact hx,h.h,by simp[h.wl],h.hl⟩
theorem Ok.SS(h:Ok s){x:Int}(hx : -1<=x/\x<=9223372036854775807)(j:Nat):Ok { s with hs:=s.hs.set j x } :=
 ⟨h.w,λy hy=>by
  rcases List.mem_or_eq_of_mem_set hy with hy | rfl
  ·exact h.h y hy
  ·exact hx,h.wl,by simp[h.hl]⟩
theorem Ok.load(h:Ok s)(t i:Int):Ok (bq s t i):=by unfold bq;split;exact h.say ..;exact h
theorem Ok.swap(h:Ok s)(t i old now:Int)(hx:0<=now/\now<=18446744073709551615):Ok (aP s t i old now):=by
 unfold aP;split
 ·split
  ·exact(h.Vg hx _).say ..
  ·exact h.say ..
 ·exact h
theorem Ok.lock(h:Ok s)(t i:Int)(ht:t<=9223372036854775807):Ok (aH s t i):=by
 unfold aH;split
 ·rename_i hb;refine(h.SS ⟨?_,ht⟩ _).say ..;simp[L4]at hb;omega
 ·exact h
theorem Ok.unlock(h:Ok s)(t i:Int):Ok (aq s t i):=by
 unfold aq;split
 ·exact(h.SS ⟨by omega,by omega⟩ _).say ..
 ·exact h
theorem Ok.touch(h:Ok s)(t k i:Int):Ok (ai s t k i):=by unfold ai;split;exact h.say ..;exact h
end
end Go.bg
namespace Go.aN
open Go.RowKit
open Go.bg (Ac)
def AM(ls:List Ac):List Value:=ls.flatMap λa=>[.int .i64 a.t,.int .i64 a.k,.int .i64 a.p]
theorem CY(xs ys:List Ac):AM (xs++ys)=AM xs++AM ys:=by simp[AM]
theorem Qw:∀(ls:List Ac) (i:Nat) (a:Ac),ls[i]? = some a->(AM ls)[i*3]? = some (.int .i64 a.t)/\(AM ls)[i*3+1]? = some (.int .i64 a.k)/\(AM ls)[i*3+2]? = some (.int .i64 a.p):=by
 intro ls
 induction ls with
 | nil=>intro i a h;simp at h
 | cons b ls ih =>
  intro i a h
  cases i with
  | zero=>simp at h;subst h;simp[AM]
  | succ i =>
   have:=ih i a (by simpa using h)
   have e:∀j,(AM (b::ls))[(i+1)*3+j]? = (AM ls)[i*3+j]?:=λj=>by
    show([_,_,_]++AM ls)[_]? = _;rw[List.getElem?_append_right zt];congr 1;simp;omega
   exact⟨(e 0).trans this.1,(e 1).trans this.2.1,(e 2).trans this.2.2⟩
structure Uu where
 t:TypeId
 tw:TypeId
 th:TypeId
 ta:TypeId
 k:IntKind
structure Mm(T:Uu)(w:World)(O:Nat->Prop)(B:Nat)(vw vh vl:Value)(ws hs:List Int)(ls:List Ac):Prop where
 blk:aF w B #[vw,vh,vl] T.t
 wr:w.ownsRow 0 T.tw 1 vw ws.length (kz .u64 ws)
 hr:w.ownsRow 0 T.th 1 vh hs.length (kz T.k hs)
 lr:w.ownsRow 0 T.ta 3 vl ls.length (AM ls)
 wo:∀g,vw.ownBlock=some g->O g/\g≠B
 ho:∀g,vh.ownBlock=some g->O g/\g≠B/\vw.ownBlock≠some g
 lo:∀g,vl.ownBlock=some g->O g/\g≠B/\vw.ownBlock≠some g/\vh.ownBlock≠some g
 ob:O B
 lt:∀j,O j->j<w.heap.size
section
variable {T:Uu}{w w':World}{O O':Nat->Prop}{B:Nat}{vw vh vl:Value}{ws hs:List Int}{ls:List Ac}
theorem Mm.keep(H:Mm T w O B vw vh vl ws hs ls)(hs':w.heap.size<=w'.heap.size)(h:∀k,O k->w'.heap[k]? = w.heap[k]?):Mm T w' O B vw vh vl ws hs ls where
 blk:=H.blk.keep (h _ H.ob)
 wr:=bf H.wr λg e=>h g (H.wo g e).1
 hr:=bf H.hr λg e=>h g (H.ho g e).1
 lr:=bf H.lr λg e=>h g (H.lo g e).1
 wo:=H.wo
 ho:=H.ho
 lo:=H.lo
 ob:=H.ob
 lt:=λj hj=>Nat.lt_of_lt_of_le (H.lt j hj) hs'
theorem Mm.far(H:Mm T w O B vw vh vl ws hs ls)(h:ar O' w w')(hd:∀j,O j->¬O' j):Mm T w' O B vw vh vl ws hs ls:=H.keep h.size λk hk=>h.block k (H.lt k hk) (hd k hk)
theorem Mm.next(H:Mm T w O B vw vh vl ws hs ls)(hb:Below w.heap.size w w'):Mm T w' O B vw vh vl ws hs ls:=H.far (O':=λ_=>False) (ar.aS hb) (λ_ _ e=>e)
theorem Mm.alloc(H:Mm T w O B vw vh vl ws hs ls)(o:Obj):Mm T (w.alloc o) O B vw vh vl ws hs ls:=H.next ((Below.refl _ w).alloc zl o)
theorem Mm.more(H:Mm T w O B vw vh vl ws hs ls)(h:∀j,O j->O' j)(hl:∀j,O' j->j<w.heap.size):Mm T w O' B vw vh vl ws hs ls :=
 ⟨H.blk,H.wr,H.hr,H.lr,λg e=>⟨h g (H.wo g e).1,(H.wo g e).2⟩,λg e=>⟨h g (H.ho g e).1,(H.ho g e).2⟩,λg e=>⟨h g (H.lo g e).1,(H.lo g e).2⟩,h _ H.ob,hl⟩
theorem Mm.word(H:Mm T w O B vw vh vl ws hs ls){j:Nat}(hj:j<ws.length) :
  ∃g c,vw = .slice (some ⟨g,0,none⟩) ws.length c/\ws.length<=c/\c<=9223372036854775807/\O g/\w.cell? ⟨g,j,none⟩=some (.int .u64 (ws.getD j 0))/\w.frozen? ⟨g,j,none⟩=false:=by
 obtain⟨g,c,e,h1,h2,_,_,h5,h6⟩:=pX H.wr (j:=j) (u:=.int .u64 (ws.getD j 0)) (by simp[kz,List.getD,hj])
 exact⟨g,c,e,h1,h2,(H.wo g (by rw[e];rfl)).1,h5,h6⟩
theorem Mm.hold(H:Mm T w O B vw vh vl ws hs ls){j:Nat}(hj:j<hs.length) :
  ∃g c,vh = .slice (some ⟨g,0,none⟩) hs.length c/\hs.length<=c/\c<=9223372036854775807/\O g/\w.cell? ⟨g,j,none⟩=some (.int T.k (hs.getD j 0))/\w.frozen? ⟨g,j,none⟩=false:=by
 obtain⟨g,c,e,h1,h2,_,_,h5,h6⟩:=pX H.hr (j:=j) (u:=.int T.k (hs.getD j 0)) (by simp[kz,List.getD,hj])
 exact⟨g,c,e,h1,h2,(H.ho g (by rw[e];rfl)).1,h5,h6⟩
theorem Mm.Vh(H:Mm T w O B vw vh vl ws hs ls){g c:Nat}(e:vw = .slice (some ⟨g,0,none⟩) ws.length c)(j:Nat)(x:Int) :
  Mm T (w.setCell ⟨g,j,none⟩ (.int .u64 x)) O B vw vh vl (ws.set j x) hs ls:=by
 have ho:=(H.wo g (by rw[e];rfl))
 have hk:∀k,k≠g->(w.setCell ⟨g,j,none⟩ (.int .u64 x)).heap[k]? = w.heap[k]?:=λk hk=>Below.heap_setCell _ _ _ _ hk
 refine⟨H.blk.keep (hk _ (λe=>ho.2 e.symm)),?_,bf H.hr λk ek=>hk k (λe2=>(H.ho k ek).2.2 (by subst e2;rw[e];rfl)),bf H.lr λk ek=>hk k (λe2=>(H.lo k ek).2.2.1 (by subst e2;rw[e];rfl)),H.wo,H.ho,H.lo,H.ob,λj hj=>by have:=H.lt j hj;simpa[World.setCell]using this⟩
 have:=H.wr
 rw[e]at this ⊢
 rw[List.length_set]
 rw[show kz .u64 (ws.set j x)=(kz .u64 ws).set j (.int .u64 x) by simp[kz,List.map_set]]
 exact(this.stored j _).1
theorem Mm.SU(H:Mm T w O B vw vh vl ws hs ls){g c:Nat}(e:vh = .slice (some ⟨g,0,none⟩) hs.length c)(j:Nat)(x:Int) :
  Mm T (w.setCell ⟨g,j,none⟩ (.int T.k x)) O B vw vh vl ws (hs.set j x) ls:=by
 have ho:=(H.ho g (by rw[e];rfl))
 have hk:∀k,k≠g->(w.setCell ⟨g,j,none⟩ (.int T.k x)).heap[k]? = w.heap[k]?:=λk hk=>Below.heap_setCell _ _ _ _ hk
 refine⟨H.blk.keep (hk _ (λe=>ho.2.1 e.symm)),bf H.wr λk ek=>hk k (λe2=>ho.2.2 (by subst e2;exact ek)),?_,bf H.lr λk ek=>hk k (λe2=>(H.lo k ek).2.2.2 (by subst e2;rw[e];rfl)),H.wo,H.ho,H.lo,H.ob,λj hj=>by have:=H.lt j hj;simpa[World.setCell]using this⟩
 have:=H.hr
 rw[e]at this ⊢
 rw[List.length_set]
 rw[show kz T.k (hs.set j x)=(kz T.k hs).set j (.int T.k x) by simp[kz,List.map_set]]
 exact(this.stored j _).1
abbrev plus(O:Nat->Prop)(w w':World)(j:Nat):Prop:=O j\/(w.heap.size<=j/\j<w'.heap.size)
theorem Mm.push(H:Mm T w O B vw vh vl ws hs ls){v:Value}{a:Ac}(hr:w'.ownsRow 0 T.ta 3 v (ls.length+1) (AM ls++[.int .i64 a.t,.int .i64 a.k,.int .i64 a.p]))(hg:w.grownBy w' vl.ownBlock)
  (hb:v.ownBlock=vl.ownBlock\/∃g,v.ownBlock=some g/\w.heap.size<=g/\g<w'.heap.size):Mm T (w'.setCell ⟨B,2,none⟩ v) (plus O w w') B vw vh v ws hs (ls++[a])/\ar O w (w'.setCell ⟨B,2,none⟩ v):=by
 have hlo:∀k,vl.ownBlock=some k->O k:=λk e=>(H.lo k e).1
 have hB:w'.heap[B]? = w.heap[B]?:=hg.block B (H.lt _ H.ob) λe=>(H.lo B e.symm).2.1 rfl
 have hk:∀k,k≠B->(w'.setCell ⟨B,2,none⟩ v).heap[k]? = w'.heap[k]?:=λk hk=>Below.heap_setCell _ _ _ _ hk
 have hsz:(w'.setCell ⟨B,2,none⟩ v).heap.size=w'.heap.size:=by simp[World.setCell]
 have Vi:=H.lt _ H.ob
 have hnew:∀g,v.ownBlock=some g->(plus O w w' g/\g≠B/\vw.ownBlock≠some g/\vh.ownBlock≠some g):=by
  intro g e
  rcases hb with hb | ⟨g2,e2,h1,h2⟩
  ·obtain⟨a1,a2,a3,a4⟩:=H.lo g (hb▸e);exact⟨.inl a1,a2,a3,a4⟩
  ·rw[e]at e2;obtain rfl:=Option.some.inj e2;exact⟨.inr ⟨h1,h2⟩,by omega,λe3=>by have:=H.lt _ (H.wo g e3).1;omega,λe3=>by have:=H.lt _ (H.ho g e3).1;omega⟩
 refine⟨⟨(H.blk.keep hB).set' 2 v rfl,?_,?_,?_,λg e=>⟨.inl (H.wo g e).1,(H.wo g e).2⟩,λg e=>⟨.inl (H.ho g e).1,(H.ho g e).2⟩,hnew,.inl H.ob,?_⟩,?_⟩
 ·refine bf H.wr λg e=>(hk g (H.wo g e).2).trans (hg.block g (H.lt _ (H.wo g e).1) λe2=>(H.lo g e2.symm).2.2.1 e)
 ·refine bf H.hr λg e=>(hk g (H.ho g e).2.1).trans (hg.block g (H.lt _ (H.ho g e).1) λe2=>(H.lo g e2.symm).2.2.2 e)
 ·rw[List.length_append,CY];exact bf hr λg e=>hk g (hnew g e).2.1
 ·intro j hj;rw[hsz];exact hj.elim (λh=>Nat.lt_of_lt_of_le (H.lt j h) hg.size) (λh=>h.2)
 ·exact(ar.grown hg hlo).setCell (.inl H.ob) v
theorem Mm.SV(H:Mm T w O B vw vh vl ws hs ls){v:Value}{x:Int}(hr:w'.ownsRow 0 T.tw 1 v (ws.length+1) (kz .u64 ws++[.int .u64 x]))(hg:w.grownBy w' vw.ownBlock)
  (hb:v.ownBlock=vw.ownBlock\/∃g,v.ownBlock=some g/\w.heap.size<=g/\g<w'.heap.size):Mm T (w'.setCell ⟨B,0,none⟩ v) (plus O w w') B v vh vl (ws++[x]) hs ls/\ar O w (w'.setCell ⟨B,0,none⟩ v):=by
 have hlo:∀k,vw.ownBlock=some k->O k:=λk e=>(H.wo k e).1
 have hB:w'.heap[B]? = w.heap[B]?:=hg.block B (H.lt _ H.ob) λe=>(H.wo B e.symm).2 rfl
 have hk:∀k,k≠B->(w'.setCell ⟨B,0,none⟩ v).heap[k]? = w'.heap[k]?:=λk hk=>Below.heap_setCell _ _ _ _ hk
 have hsz:(w'.setCell ⟨B,0,none⟩ v).heap.size=w'.heap.size:=by simp[World.setCell]
 have Vi:=H.lt _ H.ob
 have hnew:∀g,v.ownBlock=some g->(plus O w w' g/\g≠B/\vh.ownBlock≠some g/\vl.ownBlock≠some g):=by
  intro g e
  rcases hb with hb | ⟨g2,e2,h1,h2⟩
  ·obtain⟨a1,a2⟩:=H.wo g (hb▸e);exact⟨.inl a1,a2,λe3=>(H.ho g e3).2.2 (hb▸e),λe3=>(H.lo g e3).2.2.1 (hb▸e)⟩
  ·rw[e]at e2;obtain rfl:=Option.some.inj e2;exact⟨.inr ⟨h1,h2⟩,by omega,λe3=>by have:=H.lt _ (H.ho g e3).1;omega,λe3=>by have:=H.lt _ (H.lo g e3).1;omega⟩
 refine⟨⟨(H.blk.keep hB).set' 0 v rfl,?_,?_,?_,λg e=>⟨(hnew g e).1,(hnew g e).2.1⟩,λg e=>⟨.inl (H.ho g e).1,(H.ho g e).2.1,λe2=>(hnew g e2).2.2.1 e⟩,λg e=>⟨.inl (H.lo g e).1,(H.lo g e).2.1,λe2=>(hnew g e2).2.2.2 e,(H.lo g e).2.2.2⟩,.inl H.ob,?_⟩,?_⟩
 ·rw[List.length_append,show kz .u64 (ws++[x])=kz .u64 ws++[.int .u64 x] by simp[kz]];exact bf hr λg e=>hk g (hnew g e).2.1
 ·refine bf H.hr λg e=>(hk g (H.ho g e).2.1).trans (hg.block g (H.lt _ (H.ho g e).1) λe2=>(H.ho g e).2.2 e2.symm)
 ·refine bf H.lr λg e=>(hk g (H.lo g e).2.1).trans (hg.block g (H.lt _ (H.lo g e).1) λe2=>(H.lo g e).2.2.1 e2.symm)
 ·intro j hj;rw[hsz];exact hj.elim (λh=>Nat.lt_of_lt_of_le (H.lt j h) hg.size) (λh=>h.2)
 ·exact(ar.grown hg hlo).setCell (.inl H.ob) v
theorem Mm.Qx(H:Mm T w O B vw vh vl ws hs ls)(hg:w.grownBy w' vl.ownBlock):aF w' B #[vw,vh,vl] T.t:=H.blk.keep (hg.block B (H.lt _ H.ob) λe=>(H.lo B e.symm).2.1 rfl)
theorem Mm.Qy(H:Mm T w O B vw vh vl ws hs ls)(hg:w.grownBy w' vw.ownBlock):aF w' B #[vw,vh,vl] T.t:=H.blk.keep (hg.block B (H.lt _ H.ob) λe=>(H.wo B e.symm).2 rfl)
theorem Mm.SX(H:Mm T w O B vw vh vl ws hs ls):∃A c,vw = .slice A ws.length c/\ws.length<=c/\c<=9223372036854775807:=cO H.wr
theorem Mm.Qz(H:Mm T w O B vw vh vl ws hs ls):∃A c,vh = .slice A hs.length c/\hs.length<=c/\c<=9223372036854775807:=cO H.hr
theorem Mm.NF(H:Mm T w O B vw vh vl ws hs ls):∃A c,vl = .slice A ls.length c/\ls.length<=c/\c<=9223372036854775807:=cO H.lr
end
end Go.aN
namespace Go.Proofs.YtbhnbcadgmagpaaGreatDoor
open Go.ChangeShapes Go.WideShapes Go.ChangeAt Go.RowKit Go.aN Go.Lib
namespace Me
open bg
abbrev T1:Uu:=⟨128,56,3,92,.i64⟩
abbrev ptr(B:Nat):Value:=.pointer (some ⟨B,0,none⟩)
theorem AO:(Tryz.prog.info? 92).map (λi=>(i.zero,i.size,i.bytes))=some (some (.agg #[.int .i64 0,.int .i64 0,.int .i64 0]),3,24):=zk
theorem dO:(Tryz.prog.info? 56).map (λi=>(i.zero,i.size,i.bytes))=some (some (.int .u64 0),1,8):=zk
section
variable {w:World}{O:Nat->Prop}{B:Nat}{vw vh vl:Value}{ws hs:List Int}{ls:List Ac}
theorem cD(H:Mm T1 w O B vw vh vl ws hs ls)(t k n sp p:Int)(hn:0<=n/\n<=1099511627776)(hsp:0<=sp/\sp<=2)(hp:p=3*n+sp)(hl:ls.length<=1000000000000) :
  Calls Tryz.prog 82 #[ptr B,.int .i64 t,.int .i64 k,.int .i64 n,.int .i64 sp] w λe w'=>∃O' v,e = .returned (.tuple #[])/\Mm T1 w' O' B vw vh v ws hs (ls++[⟨t,k,p⟩])/\ar O w w'/\∀j,O' j->O j\/w.heap.size<=j:=by
 subst hp
 obtain⟨n0,n1⟩:=hn
 obtain⟨s0,s1⟩:=hsp
 obtain⟨Al,cl,rfl,hc1,hc2⟩:=H.NF
 have c2:=H.blk.cell 2 _ rfl
 have HH:=hid H
 clear H
 go_in
 go_wp2_with (at_builtin;refine jP (ls.length+1) rfl _ _ 54 92 rfl Tryz.underlying54 (.agg #[.int .i64 0,.int .i64 0,.int .i64 0]) 3 24 AO rfl zo zo _ _ _ rfl HH.out.lr [.int .i64 t,.int .i64 k,.int .i64 (3*n+sp)] rfl (by simp[Value.oneCell']) rfl rfl hl ?_;intro A' c' w1 h1 h2 h3;have dF:=HH.out.Qx h2.out;clear c2;have c2:=dF.cell 2 _ rfl;have f2:=dF.frozen 2;clear dF)
 go_end0
 have HP:=HH.out.push (a:=⟨t,k,3*n+sp⟩) h1.out h2.out h3.out
 exact⟨_,_,rfl,HP.1,HP.2,λj hj=>hj.imp id (λh=>h.1)⟩
theorem gh(H:Mm T1 w O B vw vh vl ws hs ls)(i:Int){b:Bool}(hb:has ws.length i=b) :
  Calls Tryz.prog 86 #[ptr B,.int .i64 i] w λe w'=>e = .returned (.bool b)/\w=w':=by
 obtain⟨A,c,rfl,hc1,hc2⟩:=H.SX
 have c0:=H.blk.cell 0 _ rfl
 clear H
 cases b with
 | true =>
  obtain⟨j,rfl,hj⟩:=c_ hb
  clear hb
  go_in
  go_wp2_with fail
  go_ret
  exact⟨rfl,rfl⟩
 | false =>
  have h:=JS hb
  clear hb
  by_cases h0:i<0
  ·have d0:decide (i>=0)=false:=by simpa using h0
   clear h;go_in;go_wp2_with fail;go_ret;exact⟨rfl,rfl⟩
  ·obtain⟨j,rfl⟩:∃j:Nat,i=(j:Int):=⟨i.toNat,by omega⟩;have hj : ¬j<ws.length:=zo;clear h h0;go_in;go_wp2_with fail;go_ret;exact⟨rfl,rfl⟩
theorem gj(H:Mm T1 w O B vw vh vl ws hs ls)(i:Int){b:Bool}(hb:has hs.length i=b) :
  Calls Tryz.prog 81 #[ptr B,.int .i64 i] w λe w'=>e = .returned (.bool b)/\w=w':=by
 obtain⟨A,c,rfl,hc1,hc2⟩:=H.Qz
 have c0:=H.blk.cell 1 _ rfl
 clear H
 cases b with
 | true =>
  obtain⟨j,rfl,hj⟩:=c_ hb
  clear hb
  go_in
  go_wp2_with fail
  go_ret
  exact⟨rfl,rfl⟩
 | false =>
  have h:=JS hb
  clear hb
  by_cases h0:i<0
  ·have d0:decide (i>=0)=false:=by simpa using h0
   clear h;go_in;go_wp2_with fail;go_ret;exact⟨rfl,rfl⟩
  ·obtain⟨j,rfl⟩:∃j:Nat,i=(j:Int):=⟨i.toNat,by omega⟩;have hj : ¬j<hs.length:=zo;clear h h0;go_in;go_wp2_with fail;go_ret;exact⟨rfl,rfl⟩
end
end Me
end Go.Proofs.YtbhnbcadgmagpaaGreatDoor
namespace Go.Proofs.YtbhnbcadgmagpaaGreatDoor
open Go.ChangeShapes Go.WideShapes Go.ChangeAt Go.RowKit Go.aN Go.Lib
namespace Me
open bg
def kA(w:World)(O:Nat->Prop)(B:Nat)(s:Ms):Prop:=(∃vw vh vl,Mm T1 w O B vw vh vl s.ws s.hs s.ls)/\Ok s
section
variable {w w':World}{O O':Nat->Prop}{B:Nat}{s:Ms}
theorem kA.far(H:kA w O B s)(h:ar O' w w')(hd:∀j,O j->¬O' j):kA w' O B s:=by
 obtain⟨⟨vw,vh,vl,h1⟩,h2⟩:=H;exact⟨⟨vw,vh,vl,h1.far h hd⟩,h2⟩
theorem kA.next(H:kA w O B s)(hb:Below w.heap.size w w'):kA w' O B s:=H.far (O':=λ_=>False) (ar.aS hb) (λ_ _ e=>e)
theorem kA.lt(H:kA w O B s):∀j,O j->j<w.heap.size:=by
 obtain⟨⟨vw,vh,vl,h1⟩,h2⟩:=H;exact h1.lt
theorem jl(H:kA w O B s)(i:Int):Calls Tryz.prog 47 #[ptr B,.int .i64 i] w λe w'=>e = .returned (.int .u64 (af s i))/\w=w':=by
 obtain⟨⟨vw,vh,vl,H⟩,hok⟩:=H
 cases hb:has s.ws.length i with
 | false =>
  have e:af s i=0:=by unfold af;rw[hb];rfl
  rw[e]
  have HC:=hid (gh H i hb)
  clear H e hb hok
  go_in
  go_wp2_with (go_at_call 86;refine HC.out.mono ?_;rintro e w' ⟨rfl,rfl⟩)
  go_ret
  exact⟨rfl,rfl⟩
 | true =>
  have HC:=hid (gh H i hb)
  have e:af s i=at_ s.ws i:=by unfold af;rw[hb];rfl
  rw[e]
  obtain⟨j,rfl,hj⟩:=c_ hb
  rw[mw]
  obtain⟨g,c,rfl,h1,h2,-,c1,-⟩:=H.word hj
  have c0:=H.blk.cell 0 _ rfl
  generalize s.ws.getD j 0=x at *
  clear H e hb hok
  go_in
  go_wp2_with (go_at_call 86;refine HC.out.mono ?_;rintro e w' ⟨rfl,rfl⟩)
  go_ret
  exact⟨rfl,rfl⟩
theorem ua(H:kA w O B s)(i:Int):Calls Tryz.prog 48 #[ptr B,.int .i64 i] w λe w'=>e = .returned (.int .i64 (ag s i))/\w=w':=by
 obtain⟨⟨vw,vh,vl,H⟩,hok⟩:=H
 cases hb:has s.hs.length i with
 | false =>
  have e:ag s i=-1:=by unfold ag;rw[hb];rfl
  rw[e]
  have HC:=hid (gj H i hb)
  clear H e hb hok
  go_in
  go_wp2_with (go_at_call 81;refine HC.out.mono ?_;rintro e w' ⟨rfl,rfl⟩)
  go_ret
  exact⟨rfl,rfl⟩
 | true =>
  have HC:=hid (gj H i hb)
  have e:ag s i=at_ s.hs i:=by unfold ag;rw[hb];rfl
  rw[e]
  obtain⟨j,rfl,hj⟩:=c_ hb
  rw[mw]
  obtain⟨g,c,rfl,h1,h2,-,c1,-⟩:=H.hold hj
  have c0:=H.blk.cell 1 _ rfl
  generalize s.hs.getD j 0=x at *
  clear H e hb hok
  go_in
  go_wp2_with (go_at_call 81;refine HC.out.mono ?_;rintro e w' ⟨rfl,rfl⟩)
  go_ret
  exact⟨rfl,rfl⟩
def yx(w:World)(O:Nat->Prop)(B:Nat)(v:Value)(s':Ms)(e:Ending)(w':World):Prop :=
 ∃O',e = .returned v/\kA w' O' B s'/\ar O w w'/\∀j,O' j->O j\/w.heap.size<=j
theorem my(H:kA w O B s)(t i:Int)(hl:s.ls.length<=1000000000000):Calls Tryz.prog 109 #[ptr B,.int .i64 t,.int .i64 i] w (yx w O B (.int .u64 (af s i)) (bq s t i)):=by
 have eV:=H.2.load t i;obtain⟨⟨vw,vh,vl,H1⟩,hok⟩:=H
 cases hb:has s.ws.length i with
 | false =>
  have e2:bq s t i=s:=by unfold bq;rw[hb];rfl
  rw[e2]
  have HC:=hid (gh H1 i hb)
  have HM:Hid (kA w O B s):=⟨⟨vw,vh,vl,H1⟩,hok⟩
  have HL:=hid (jl HM.out i)
  generalize af s i=x at HL ⊢
  clear H1 e2 hb hok eV
  go_in
  go_wp2_with fail
  go_at_call 86
  refine HC.out.mono ?_
  rintro e w' ⟨rfl,rfl⟩
  go_wp2_with fail
  go_at_call 47
  refine HL.out.mono ?_
  rintro e w' ⟨rfl,rfl⟩
  go_wp2_with fail
  go_ret
  exact⟨O,rfl,HM.out,ar.refl _ _,λj hj=>.inl hj⟩
 | true =>
  have HC:=hid (gh H1 i hb)
  have e2:bq s t i=say s t 3 (3*i):=by unfold bq;rw[hb];rfl
  have e3:af (say s t 3 (3*i)) i=af s i:=rfl
  rw[e2]at eV ⊢
  have hi:0<=i/\i<=1099511627776:=by obtain⟨j,rfl,hj⟩:=c_ hb;have:=hok.wl;omega
  have HR:=hid (cD H1 t 3 i 0 (3*i) hi zo zo hl)
  have HK:=hid eV
  have HL:Hid (∀W O',kA W O' B (say s t 3 (3*i))->Calls Tryz.prog 47 #[ptr B,.int .i64 i] W λe w'=>e = .returned (.int .u64 (af s i))/\W=w'):=λW O' h=>e3▸jl h i
  generalize af s i=x at HL ⊢
  clear H1 e2 e3 hb hok eV hi hl
  go_in
  go_wp2_with fail
  go_at_call 86
  refine HC.out.mono ?_
  rintro e w' ⟨rfl,rfl⟩
  go_wp2_with fail
  go_at_call 82
  refine HR.out.mono ?_
  rintro e w1 ⟨O',v,rfl,hm,ho,hO⟩
  have HM:Hid (kA w1 O' B (say s t 3 (3*i))):=⟨⟨_,_,_,hm⟩,HK.out⟩
  have HO:=hid ho
  have HP:=hid hO
  clear hm ho hO
  go_wp2_with fail
  go_at_call 47
  refine(HL.out _ _ HM.out).mono ?_
  rintro e w' ⟨rfl,rfl⟩
  go_wp2_with fail
  go_ret
  exact⟨O',rfl,HM.out,HO.out,HP.out⟩
end
end Me
end Go.Proofs.YtbhnbcadgmagpaaGreatDoor
namespace Go.Proofs.YtbhnbcadgmagpaaGreatDoor
open Go.ChangeShapes Go.WideShapes Go.ChangeAt Go.RowKit Go.aN Go.Lib
namespace Me
open bg
theorem oG{O O':Nat->Prop}{w w1 w2:World}(h1:ar O w w1)(h2:ar O w1 w2)(hO:∀j,O' j->O j\/w1.heap.size<=j):ar O w w2/\∀j,O' j->O j\/w.heap.size<=j :=
 ⟨h1.trans h2 (λj h=>.inl h),λj h=>(hO j h).imp id (λh=>Nat.le_trans h1.size h)⟩
section
variable {w w':World}{O O':Nat->Prop}{B:Nat}{s:Ms}
theorem jm(H:kA w O B s)(t i old now:Int)(hx:0<=now/\now<=18446744073709551615)(hl:s.ls.length<=1000000000000) :
  Calls Tryz.prog 154 #[ptr B,.int .i64 t,.int .i64 i,.int .u64 old,.int .u64 now] w (yx w O B (.bool (ay s i old)) (aP s t i old now)):=by
 have eV:=H.2.swap t i old now hx
 obtain⟨⟨vw,vh,vl,H1⟩,hok⟩:=H
 cases hb:has s.ws.length i with
 | false =>
  have e1:ay s i old=false:=by unfold ay;rw[hb];rfl
  have e2:aP s t i old now=s:=by unfold aP;rw[hb];rfl
  rw[e1,e2]
  have HC:=hid (gh H1 i hb)
  have HM:Hid (kA w O B s):=⟨⟨vw,vh,vl,H1⟩,hok⟩
  clear H1 e1 e2 hb hok eV
  go_in
  go_wp2_with fail
  go_at_call 86
  refine HC.out.mono ?_
  rintro e w' ⟨rfl,rfl⟩
  go_wp2_with fail
  go_ret
  exact⟨O,rfl,HM.out,ar.refl _ _,λj hj=>.inl hj⟩
 | true =>
  have HC:=hid (gh H1 i hb)
  have hi:0<=i/\i<=1099511627776:=by obtain⟨j,rfl,hj⟩:=c_ hb;have:=hok.wl;omega
  by_cases ho:at_ s.ws i=old
  ·have e1:ay s i old=true:=by unfold ay;rw[hb,ho];simp
   have e2:aP s t i old now=say { s with ws:=s.ws.set i.toNat now } t 4 (3*i):=by unfold aP;rw[hb,if_pos rfl,if_pos ho]
   rw[e2]at eV;rw[e1,e2];obtain⟨j,rfl,hj⟩:=c_ hb;rw[mw]at ho;rw[Int.toNat_natCast]at eV ⊢;obtain⟨g,c,rfl,h1,h2,EG,c1,f1⟩:=H1.word hj;rw[ho]at c1;have c0:=H1.blk.cell 0 _ rfl;have H2:=H1.Vh rfl j now;have HR:=hid (cD H2 t 4 j 0 (3*j) hi zo zo hl);have FZ:=hid ((ar.refl O w).setCell (p:=⟨g,j,none⟩) (.inl EG) (.int .u64 now));have HK:=hid eV;clear H1 H2 e1 e2 ho hb hok eV hi hl EG hx;go_in;go_wp2_with fail;refine HC.out.mono ?_;rintro e w' ⟨rfl,rfl⟩;go_wp2_with fail;refine HR.out.mono ?_;rintro e w1 ⟨O',v,rfl,hm,ho,hO⟩;have HM:Hid (kA w1 O' B (say { s with ws:=s.ws.set j now } t 4 (3*j))):=⟨⟨_,_,_,hm⟩,HK.out⟩;have HD:=hid (oG FZ.out ho hO);clear hm ho hO;go_wp2_with fail;go_ret;exact⟨O',rfl,HM.out,HD.out⟩
  ·have e1:ay s i old=false:=by unfold ay;rw[hb];simpa using ho
   have e2:aP s t i old now=say s t 3 (3*i):=by unfold aP;rw[hb,if_pos rfl,if_neg ho]
   rw[e2]at eV;rw[e1,e2];have HR:=hid (cD H1 t 3 i 0 (3*i) hi zo zo hl);obtain⟨j,rfl,hj⟩:=c_ hb;rw[mw]at ho;obtain⟨g,c,rfl,h1,h2,EG,c1,f1⟩:=H1.word hj;generalize s.ws.getD j 0=x at *
   have d1:(x != old)=true:=by simpa using ho
   have c0:=H1.blk.cell 0 _ rfl;have HK:=hid eV;clear H1 e1 e2 ho hb hok eV hi hl EG hx f1;go_in;go_wp2_with fail;refine HC.out.mono ?_;rintro e w' ⟨rfl,rfl⟩;go_wp2_with fail;refine HR.out.mono ?_;rintro e w1 ⟨O',v,rfl,hm,ho,hO⟩;have HM:Hid (kA w1 O' B (say s t 3 (3*j))):=⟨⟨_,_,_,hm⟩,HK.out⟩;have HD:Hid (ar O w w1/\∀j,O' j->O j\/w.heap.size<=j):=⟨ho,hO⟩;clear hm ho hO c0 c1;go_wp2_with fail;go_ret;exact⟨O',rfl,HM.out,HD.out⟩
theorem JT(H:kA w O B s)(t i:Int)(ht:t<=9223372036854775807)(hl:s.ls.length<=1000000000000) :
  Calls Tryz.prog 43 #[ptr B,.int .i64 t,.int .i64 i] w (yx w O B (.bool (L4 s t i)) (aH s t i)):=by
 have eV:=H.2.lock t i ht
 have F0:=hid H
 obtain⟨⟨vw,vh,vl,H1⟩,hok⟩:=H
 by_cases ht0:t<0
 ·have e1:L4 s t i=false:=by unfold L4;rw[decide_eq_false zo];rfl
  have e2:aH s t i=s:=by unfold aH;rw[e1];rfl
  rw[e1,e2];clear H1 e1 e2 hok eV;go_in;go_wp2_with fail;go_ret;exact⟨O,rfl,F0.out,ar.refl _ _,λj hj=>.inl hj⟩
 ·cases hb:has s.hs.length i with
  | false =>
   have e1:L4 s t i=false:=by unfold L4;rw[hb];simp
   have e2:aH s t i=s:=by unfold aH;rw[e1];rfl
   rw[e1,e2]
   have HC:=hid (gj H1 i hb)
   clear H1 e1 e2 hb hok eV
   go_in
   go_wp2_with fail
   go_at_call 81
   refine HC.out.mono ?_
   rintro e w' ⟨rfl,rfl⟩
   go_wp2_with fail
   go_ret
   exact⟨O,rfl,F0.out,ar.refl _ _,λj hj=>.inl hj⟩
  | true =>
   have HC:=hid (gj H1 i hb)
   have hi:0<=i/\i<=1099511627776:=by obtain⟨j,rfl,hj⟩:=c_ hb;have:=hok.hl;omega
   by_cases ho:at_ s.hs i=-1
   ·have e1:L4 s t i=true:=by unfold L4;rw[hb,ho,decide_eq_true zo];rfl
    have e2:aH s t i=say { s with hs:=s.hs.set i.toNat t } t 1 (3*i+1):=by unfold aH;rw[e1,if_pos rfl]
    rw[e2]at eV;rw[e1,e2];obtain⟨j,rfl,hj⟩:=c_ hb;rw[mw]at ho;rw[Int.toNat_natCast]at eV ⊢;obtain⟨g,c,rfl,h1,h2,EG,c1,f1⟩:=H1.hold hj;rw[ho]at c1;have c0:=H1.blk.cell 1 _ rfl;have H2:=H1.SU rfl j t;have HR:=hid (cD H2 t 1 j 1 (3*j+1) hi zo zo hl);have FZ:=hid ((ar.refl O w).setCell (p:=⟨g,j,none⟩) (.inl EG) (.int .i64 t));have HK:=hid eV;clear H1 H2 e1 e2 ho hb hok eV hi hl EG F0;go_in;go_wp2_with fail;refine HC.out.mono ?_;rintro e w' ⟨rfl,rfl⟩;go_wp2_with fail;refine HR.out.mono ?_;rintro e w1 ⟨O',v,rfl,hm,ho,hO⟩;have HM:Hid (kA w1 O' B (say { s with hs:=s.hs.set j t } t 1 (3*j+1))):=⟨⟨_,_,_,hm⟩,HK.out⟩;have HD:=hid (oG FZ.out ho hO);clear hm ho hO;go_wp2_with fail;go_ret;exact⟨O',rfl,HM.out,HD.out⟩
   ·have e1:L4 s t i=false:=by unfold L4;rw[hb];simpa using λ_=>ho
    have e2:aH s t i=s:=by unfold aH;rw[e1];rfl
    rw[e1,e2];obtain⟨j,rfl,hj⟩:=c_ hb;rw[mw]at ho;obtain⟨g,c,rfl,h1,h2,EG,c1,f1⟩:=H1.hold hj;generalize s.hs.getD j 0=x at *
    have d1:(x != -1)=true:=by simpa using ho
    have c0:=H1.blk.cell 1 _ rfl;clear H1 e1 e2 ho hb hok eV hi hl EG f1;go_in;go_wp2_with fail;refine HC.out.mono ?_;rintro e w' ⟨rfl,rfl⟩;go_wp2_with fail;go_ret;exact⟨O,rfl,F0.out,ar.refl _ _,λj hj=>.inl hj⟩
theorem CZ(H:kA w O B s)(t i:Int)(hl:s.ls.length<=1000000000000) :
  Calls Tryz.prog 204 #[ptr B,.int .i64 t,.int .i64 i] w (yx w O B (.int .i64 (d_ s t i)) (aq s t i)):=by
 have eV:=H.2.unlock t i
 have F0:=hid H
 obtain⟨⟨vw,vh,vl,H1⟩,hok⟩:=H
 cases hb:has s.hs.length i with
 | false =>
  have e1:d_ s t i=15:=by unfold d_;rw[hb];rfl
  have e2:aq s t i=s:=by unfold aq;rw[e1];rfl
  rw[e1,e2]
  have HC:=hid (gj H1 i hb)
  clear H1 e1 e2 hb hok eV
  go_in
  go_wp2_with fail
  go_at_call 81
  refine HC.out.mono ?_
  rintro e w' ⟨rfl,rfl⟩
  go_wp2_with fail
  go_ret
  exact⟨O,rfl,F0.out,ar.refl _ _,λj hj=>.inl hj⟩
 | true =>
  have HC:=hid (gj H1 i hb)
  have hi:0<=i/\i<=1099511627776:=by obtain⟨j,rfl,hj⟩:=c_ hb;have:=hok.hl;omega
  by_cases AP:t<0\/at_ s.hs i≠t
  ·have e1:d_ s t i=13:=by unfold d_;rw[hb,if_neg zs,if_pos AP]
   have e2:aq s t i=s:=by unfold aq;rw[e1];rfl
   rw[e1,e2];obtain⟨j,rfl,hj⟩:=c_ hb;rw[mw]at AP;obtain⟨g,c,rfl,h1,h2,EG,c1,f1⟩:=H1.hold hj;generalize s.hs.getD j 0=x at *;have c0:=H1.blk.cell 1 _ rfl;clear H1 e1 e2 hb hok eV hi hl EG f1;by_cases ht0:t<0
   ·clear AP;go_in;go_wp2_with fail;refine HC.out.mono ?_;rintro e w' ⟨rfl,rfl⟩;go_wp2_with fail;go_ret;exact⟨O,rfl,F0.out,ar.refl _ _,λj hj=>.inl hj⟩
   ·have d1:(x != t)=true:=by simpa using AP.resolve_left ht0
    clear AP;go_in;go_wp2_with fail;refine HC.out.mono ?_;rintro e w' ⟨rfl,rfl⟩;go_wp2_with fail;go_ret;exact⟨O,rfl,F0.out,ar.refl _ _,λj hj=>.inl hj⟩
  ·have e1:d_ s t i=0:=by unfold d_;rw[hb,if_neg zs,if_neg AP]
   have e2:aq s t i=say { s with hs:=s.hs.set i.toNat (-1) } t 2 (3*i+1):=by unfold aq;rw[e1,if_pos rfl]
   rw[e2]at eV;rw[e1,e2];obtain⟨j,rfl,hj⟩:=c_ hb;rw[mw]at AP;rw[Int.toNat_natCast]at eV ⊢;obtain⟨g,c,rfl,h1,h2,EG,c1,f1⟩:=H1.hold hj;have ht0 : ¬t<0:=zo;rw[show s.hs.getD j 0=t by omega]at c1;have c0:=H1.blk.cell 1 _ rfl;have H2:=H1.SU rfl j (-1);have HR:=hid (cD H2 t 2 j 1 (3*j+1) hi zo zo hl);have FZ:=hid ((ar.refl O w).setCell (p:=⟨g,j,none⟩) (.inl EG) (.int .i64 (-1)));have HK:=hid eV;clear H1 H2 e1 e2 AP hb hok eV hi hl EG F0;go_in;go_wp2_with fail;refine HC.out.mono ?_;rintro e w' ⟨rfl,rfl⟩;go_wp2_with fail;refine HR.out.mono ?_;rintro e w1 ⟨O',v,rfl,hm,ho,hO⟩;have HM:Hid (kA w1 O' B (say { s with hs:=s.hs.set j (-1) } t 2 (3*j+1))):=⟨⟨_,_,_,hm⟩,HK.out⟩;have HD:=hid (oG FZ.out ho hO);clear hm ho hO;go_wp2_with fail;go_ret;exact⟨O',rfl,HM.out,HD.out⟩
theorem aaG(H:kA w O B s)(t k i:Int)(hl:s.ls.length<=1000000000000) :
  Calls Tryz.prog 221 #[ptr B,.int .i64 t,.int .i64 k,.int .i64 i] w (yx w O B (.tuple #[]) (ai s t k i)):=by
 have eV:=H.2.touch t k i
 have F0:=hid H
 obtain⟨⟨vw,vh,vl,H1⟩,hok⟩:=H
 by_cases hi:0<=i/\i<=1099511627776
 ·have e2:ai s t k i=say s t k (3*i+2):=if_pos hi;rw[e2]at eV ⊢;have HR:=hid (cD H1 t k i 2 (3*i+2) hi zo zo hl);have HK:=hid eV;obtain⟨i0,i1⟩:=hi;clear H1 e2 hok eV hl F0;go_in;go_wp2_with fail;refine HR.out.mono ?_;rintro e w1 ⟨O',v,rfl,hm,ho,hO⟩;have HM:Hid (kA w1 O' B (say s t k (3*i+2))):=⟨⟨_,_,_,hm⟩,HK.out⟩;have HD:Hid (ar O w w1/\∀j,O' j->O j\/w.heap.size<=j):=⟨ho,hO⟩;clear hm ho hO;go_wp2_with fail;go_end0;exact⟨O',rfl,HM.out,HD.out⟩
 ·have e2:ai s t k i=s:=if_neg hi;rw[e2];clear H1 e2 hok eV hl;by_cases h0:i<0
  ·have d0:decide (i>=0)=false:=by simpa using h0
   clear hi;go_in;go_wp2_with fail;go_end0;exact⟨O,rfl,F0.out,ar.refl _ _,λj hj=>.inl hj⟩
  ·have h1 : ¬i<=1099511627776:=zo;have h2:0<=i:=zo;clear hi h0;go_in;go_wp2_with fail;go_end0;exact⟨O,rfl,F0.out,ar.refl _ _,λj hj=>.inl hj⟩
theorem uc(H:kA w O B s)(t i:Int)(hl:s.ls.length<=1000000000000):Calls Tryz.prog 174 #[ptr B,.int .i64 t,.int .i64 i] w (yx w O B (.tuple #[]) (ai s t 5 i)):=by
 have HT:=hid (aaG H t 5 i hl);clear H hl;go_in;go_wp2_with fail;refine HT.out.mono ?_;rintro e w1 ⟨O',rfl,hm,ho,hO⟩;have HD:Hid (kA w1 O' B (ai s t 5 i)/\ar O w w1/\∀j,O' j->O j\/w.heap.size<=j):=⟨hm,ho,hO⟩;clear hm ho hO;go_wp2_with fail;go_end0;exact⟨O',rfl,HD.out⟩
theorem qX(H:kA w O B s)(t i:Int)(hl:s.ls.length<=1000000000000):Calls Tryz.prog 165 #[ptr B,.int .i64 t,.int .i64 i] w (yx w O B (.tuple #[]) (ai s t 6 i)):=by
 have HT:=hid (aaG H t 6 i hl);clear H hl;go_in;go_wp2_with fail;refine HT.out.mono ?_;rintro e w1 ⟨O',rfl,hm,ho,hO⟩;have HD:Hid (kA w1 O' B (ai s t 6 i)/\ar O w w1/\∀j,O' j->O j\/w.heap.size<=j):=⟨hm,ho,hO⟩;clear hm ho hO;go_wp2_with fail;go_end0;exact⟨O',rfl,HD.out⟩
theorem JU(H:kA w O B s)(x:Int)(hx:0<=x/\x<=18446744073709551615)(hl:s.ws.length<1000000000000) :
  Calls Tryz.prog 198 #[ptr B,.int .u64 x] w (yx w O B (.int .i64 (s.ws.length:Int)) (bD s x)):=by
 have eV:=H.2.more hx hl
 obtain⟨⟨vw,vh,vl,H1⟩,hok⟩:=H
 obtain⟨Al,cl,rfl,hc1,hc2⟩:=H1.SX
 have c0:=H1.blk.cell 0 _ rfl
 have HH:=hid H1
 have HK:=hid eV
 have Zn:Hid (s.ws.length<=1000000000000):=hid zo
 clear H1 hok eV hx
 go_in
 go_wp2_with (at_builtin;refine jP (s.ws.length+1) rfl _ _ 125 56 rfl Tryz.underlying125 (.int .u64 0) 1 8 dO rfl zo zo _ _ _ rfl HH.out.wr [.int .u64 x] rfl (by simp[Value.oneCell']) rfl rfl Zn.out ?_;intro A' c' w1 h1 h2 h3;have dF:=HH.out.Qy h2.out;clear c0;have c0:=dF.cell 0 _ rfl;have f0:=dF.frozen 0;clear dF)
 go_ret
 have HP:=HH.out.SV (x:=x) h1.out h2.out h3.out
 exact⟨_,by congr 2,⟨⟨_,_,_,HP.1⟩,HK.out⟩,HP.2,λj hj=>hj.imp id (λh=>h.1)⟩
end
end Me
end Go.Proofs.YtbhnbcadgmagpaaGreatDoor
namespace Go.Proofs.YtbhnbcadgmagpaaGreatDoor
open Go.ChangeShapes Go.WideShapes Go.ChangeAt Go.RowKit Go.aN Go.Lib
namespace Me
open bg
abbrev QA(w:World)(B:Nat)(v:Value)(ls:List Ac):Prop:=Rd w B 3 ls.length v (AM ls)
theorem NG(ls:List Ac):∀u∈AM ls,u.oneCell'=true:=by
 intro u hu;unfold AM at hu;obtain⟨a,_,h⟩:=List.mem_flatMap.1 hu;simp at h
 rcases h with rfl | rfl | rfl <;> rfl
def yz(w:World)(ls:List Ac)(e:Ending)(w':World):Prop:=∃v,e = .returned v/\QA w' w'.heap.size v ls/\(∀g,v.ownBlock=some g->w.heap.size<=g)/\Below w.heap.size w w'
theorem qY(v:Value)(ls:List Ac)(w:World)(h:QA w w.heap.size v ls)(hl:ls.length<=1000000000000) :
  Calls Tryz.prog 87 #[v] w (yz w ls):=by
 obtain⟨A,c,rfl,h1,h2⟩:=h.len
 have heq:=F1 54 92 Tryz.underlying54 A ls.length c w
 rcases A with _ | ad
 ·have h0:ls=[]:=by
   rcases Nat.eq_zero_or_pos ls.length with h0 | h0
   ·exact List.eq_nil_of_length_eq_zero h0
   ·obtain⟨b,off,c2,e,_⟩:=h.at_ h0
    cases e
  subst h0;simp only[Option.isNone_none,List.length_nil]at heq ⊢;clear h h1 h2 hl;go_in;go_wp2_with fail;go_ret;exact⟨_,rfl,Rd.nil _ _ _,λg h=>by simp[Value.ownBlock]at h,Below.refl _ _⟩
 ·have HR:=hid h;simp only[Option.isNone_some]at heq;clear h;go_in;go_wp2_with (at_builtin;(refine yy rfl (.tmp 5) (.tmp 6) 54 92 rfl Tryz.underlying54 (.agg #[.int .i64 0,.int .i64 0,.int .i64 0]) 3 24 AO rfl zo zo rfl ls.length c ad (AM ls) rfl HR.out (NG ls) hl ?_;intro A' c' w' H1 H2));go_ret;exact⟨_,rfl,Rd.oH H1.out,λg hg=>(H1.out.lt g hg).1,H2.out⟩
theorem yA{w:World}{O:Nat->Prop}{B:Nat}{s:Ms}(H:kA w O B s)(hl:s.ls.length<=1000000000000) :
  Calls Tryz.prog 49 #[ptr B] w (yz w s.ls):=by
 obtain⟨⟨vw,vh,vl,H⟩,hok⟩:=H
 have c2:=H.blk.cell 2 _ rfl
 have HC:=hid (qY vl s.ls w (Rd.oH H.lr) hl)
 obtain⟨Al,cl,rfl,-,-⟩:=H.NF
 clear H hok hl
 go_in
 go_wp2_with fail
 refine HC.out.mono ?_
 rintro e w1 ⟨v,rfl,h1,h2,h3⟩
 obtain⟨A,c,rfl,-,-⟩:=h1.len
 have H1:=hid h1
 have H2:=hid h2
 have H3:=hid h3
 clear h1 h2 h3
 go_wp2_with fail
 go_ret
 exact⟨_,rfl,H1.out,H2.out,H3.out⟩
theorem F4:Tryz.prog.underlying 92=some (.struct (Tryz.prog.fieldsOf 92)):=zk
theorem JV:Tryz.prog.stoodInHeld 92=false:=zk
theorem QB:(Tryz.prog.fieldsOf 92).toList.map (λf=>(f.type,f.offset))=[(3,0),(3,1),(3,2)]:=zk
theorem JW:(Tryz.prog.fieldsOf 92).toList.all (λf=>f.name != "_")=true:=zk
theorem NH(a b c:Int)(w:World):(Op.equalIn 10000 92 (.agg #[.int .i64 a,.int .i64 b,.int .i64 c]) (.agg #[.int .i64 a,.int .i64 b,.int .i64 c])).run Tryz.prog w = .ok true w:=by
 rw[show(10000:Nat)=9999+1 from rfl,run_equalIn_struct w 9999 _ _ _ F4 JV];have hl:=QB;have hn:=JW;generalize (Tryz.prog.fieldsOf 92).toList=l at hl hn ⊢
 rcases l with _ | ⟨f1,_ | ⟨f2,_ | ⟨f3,_ | ⟨f4,l⟩⟩⟩⟩ <;> simp at hl hn
 obtain⟨⟨t1,o1⟩,⟨t2,o2⟩,t3,o3⟩:=hl;obtain⟨n1,n2,n3⟩:=hn
 have c1:(part 3 #[.int .i64 a,.int .i64 b,.int .i64 c] 0).run Tryz.prog w = .ok (.int .i64 a) w:=by simp[go_sem]
 have c2:(part 3 #[.int .i64 a,.int .i64 b,.int .i64 c] 1).run Tryz.prog w = .ok (.int .i64 b) w:=by simp[go_sem]
 have c3:(part 3 #[.int .i64 a,.int .i64 b,.int .i64 c] 2).run Tryz.prog w = .ok (.int .i64 c) w:=by simp[go_sem]
 have q:∀x:Int,(Op.equalIn 9999 3 (.int .i64 x) (.int .i64 x)).run Tryz.prog w = .ok (x==x) w:=λx=>run_equalIn_int w 9998 _ .i64 .i64 x x zk;simp only[Op.eqFields,ne_eq,n1,n2,n3,not_false_eq_true,if_true,t1,t2,t3,o1,o2,o3,Sem.run_bind,c1,c2,c3,Result.andThen_ok,q,Sem.run_ite,Sem.run_pure,beq_self_eq_true];rfl
theorem F5(a b:Value)(ls:List Ac)(w:World)(ha:QA w w.heap.size a ls)(hb:QA w w.heap.size b ls) :
  Calls Tryz.prog 35 #[a,b] w λe w'=>e = .returned (.bool true)/\∃q,w'=w.drewN q:=by
 obtain⟨A,ca,rfl,hca,Zo⟩:=ha.len
 obtain⟨C,cb,rfl,hcb,Zp⟩:=hb.len
 have HA:=hid ha
 have HB:=hid hb
 clear ha hb
 obtain⟨L,hL⟩:∃L,ls.length=L:=⟨_,rfl⟩
 have HL:=hid hL
 unfold QA at HA HB
 rw[hL]at HA HB hca hcb ⊢
 clear hL
 go_in
 go_wp2_with fail
 go_loopw [5] (λi wr=>∃k q:Nat,k<=L/\i = .int .i64 (k:Int)/\wr=w.drewN q) (λi _=>L - (RowKit.intOf i).toNat)
 case atStart=>exact⟨0,0,by omega,rfl,rfl⟩
 case round =>
  obtain⟨k,q,hk,rfl,rfl⟩:=hrel;by_cases hlt:k<L
  ·obtain⟨r,hx⟩:∃r,ls[k]? = some r:=⟨_,List.getElem?_eq_getElem (by rw[HL.out];exact hlt)⟩;obtain⟨x0,x1,x2⟩:=Qw ls k r hx;obtain⟨g1,of1,vR,hv1,-,-,-,hc1⟩:=HA.out.at_ zo;obtain⟨g2,of2,cap2,C2,-,-,-,hc2⟩:=HB.out.at_ zo
   cases hv1
   cases C2
   have a0:=hc1 _ _ x0;have a1:=hc1 _ _ x1;have a2:=hc1 _ _ x2;have b0:=hc2 _ _ x0;have b1:=hc2 _ _ x1;have b2:=hc2 _ _ x2;rw[← Nat.add_assoc]at a1 a2 b1 b2;have hEQ:=λW=>NH r.t r.k r.p W;clear hc1 hc2 hx x0 x1 x2;go_wp2_with fail
   go_quiet (fail)
   go_wp2_with fail;go_roundw
   case rel=>exact⟨k+1,_,by omega,by go_num,rfl⟩
   case measure=>simp[RowKit.intOf];omega
  ·obtain rfl:k=L:=zo;go_wp2_with fail;go_ret;exact⟨rfl,q,rfl⟩
theorem nG(n:Int)(w:World):Calls Tryz.prog 61 #[.int .i64 n] w λe w'=>e = .returned (.int .i64 (aQ n:Int))/\w=w':=by
 by_cases h1:n<0
 ·have e:aQ n=0:=by unfold aQ;rw[if_pos h1]
  rw[e];clear e;go_in;go_wp2_with fail;go_ret;exact⟨by first | rfl | (simp;omega),rfl⟩
 ·by_cases h2:8192<n
  ·have e:aQ n=8192:=by unfold aQ;rw[if_neg h1,if_pos h2]
   rw[e];clear e;go_in;go_wp2_with fail;go_ret;exact⟨by first | rfl | (simp;omega),rfl⟩
  ·have e:(aQ n:Int)=n:=by unfold aQ;rw[if_neg h1,if_neg h2];omega
   rw[e];have h0:0<=n:=zo;have h3:n<=8192:=zo;clear e h1 h2;go_in;go_wp2_with fail;go_ret;exact⟨by first | rfl | (simp;omega),rfl⟩
theorem jo(n:Nat)(h:n<=8192):bits .and .u64 (n:Int) 4294967295=(n:Int):=by
 show IntKind.u64.wrap ((BitVec.ofInt 64 (n:Int) &&& BitVec.ofInt 64 ((4294967295:Nat):Int)).toNat:Int)=_;rw[BitVec.ofInt_natCast,BitVec.ofInt_natCast,BitVec.toNat_and,BitVec.toNat_ofNat,BitVec.toNat_ofNat,Nat.mod_eq_of_lt zo,Nat.mod_eq_of_lt zo];have e:n &&& 4294967295=n % 2 ^ 32:=Nat.and_two_pow_sub_one_eq_mod n 32;rw[e];simp[IntKind.wrap,IntKind.bits,IntKind.signed];omega
theorem F6(n:Nat)(h:n<=8192)(w:World):Calls Tryz.prog 133 #[.int .u64 1,.int .u64 (n:Int)] w λe w'=>e = .returned (.tuple #[.int .u64 0,.int .u64 (n:Int)])/\w=w':=by
 have e1:=jo n h
 have e2:bits .and .u64 1 4294967295=1:=by decide +kernel
 have e3:bits .and .u64 0 4294967295=0:=by decide +kernel
 have e4:(n:Int) / 4294967296=0:=zo;go_in;go_wp2_with fail;go_ret2;exact⟨rfl,rfl⟩
theorem mul_one(n:Nat)(h:n<=8192)(w:World):Calls Tryz.prog 94 #[.int .u64 1,.int .u64 (n:Int)] w λe w'=>e = .returned (.tuple #[.int .u64 0,.int .u64 (n:Int)])/\w=w':=by
 have HM:=hid (F6 n h w);go_in;go_wp2_with (go_at_call 133;refine HM.out.mono ?_;rintro e w' ⟨rfl,rfl⟩);go_ret2;exact⟨rfl,rfl⟩
def gW(n k:Nat)(z:Int):List Value:=kz .i64 (List.replicate k z++List.replicate (n - k) 0)
theorem ud(n k:Nat)(z:Int)(h:k<=n):(gW n k z).length=n:=by simp[gW,kz];omega
theorem xj(n k:Nat)(z:Int)(h:k<=n)(m:Nat)(hm:k+m<=n):splice (gW n k z) k (kz .i64 (List.replicate m z))=gW n (k+m) z:=by
 unfold splice gW kz;apply List.ext_getElem?;intro i;simp only[← List.map_take,← List.map_drop,← List.map_append,List.getElem?_map];congr 1;simp only[List.length_map,List.length_replicate,List.getElem?_append,List.getElem?_take,List.getElem?_drop,List.getElem?_replicate,List.length_append,List.length_take]
 repeat' split
 all_goals first
  | rfl
  | omega
theorem F7(n k:Nat)(z:Int)(j:Nat)(h:j<k):(gW n k z)[j]? = some (.int .i64 z):=by
 unfold gW kz;rw[List.getElem?_map,List.getElem?_append_left (by simpa using h),List.getElem?_replicate,if_pos h];rfl
theorem EH(k:IntKind)(zs:List Int):∀u∈kz k zs,u.oneCell'=true:=by
 intro u hu;obtain⟨z,_,rfl⟩:=List.mem_map.1 hu;rfl
theorem F8(n:Nat):(madeCells (Value.int .i64 0).cells (n*1)).toList=gW n 0 0:=by
 rw[show(Value.int IntKind.i64 0).cells = #[.int .i64 0]from rfl,toList_madeCells_one];simp[gW,kz]
theorem JX:(Tryz.prog.info? 3).map (λi=>(i.zero,i.size,i.bytes))=some (some (.int .i64 0),1,8):=zk
theorem AR:(Tryz.prog.info? 3).map (·.size)=some 1:=zk
theorem xk{w:World}{base e n:Nat}{g:Nat}{xs:List Value}(h:w.ownsRow base e 1 (.slice (some ⟨g,0,none⟩) n n) n xs):w.heap[g]? = some (.cells xs.toArray e (0,0)):=by
 rcases h.2 with⟨e1,_⟩ | ⟨g',cap,cur,e1,_,h3,_,_,h5,h6⟩
 ·cases e1
 ·injection e1 with e1 _ e3;injection e1 with e1;injection e1 with e1;subst e1 e3;rw[h3];congr 2;rw[← h6,List.take_of_length_le (by rw[Array.length_toList];omega)]
theorem F9{w:World}{base e n:Nat}{g:Nat}{xs:List Value}(hb:base<=g)(hm:n<=8192)(hl:xs.length=n)(h:w.heap[g]? = some (.cells xs.toArray e (0,0))):w.ownsRow base e 1 (.slice (some ⟨g,0,none⟩) n n) n xs :=
 ⟨by omega,.inr ⟨g,n,xs.toArray,rfl,hb,h,Nat.le_refl _,by unfold maxLen;omega,by simp;omega,by rw[List.take_of_length_le zt]⟩⟩
theorem cQ(g0:Nat)(z:Int)(n:Nat)(hn:n<=8192)(w:World)(hc:w.cell? ⟨g0,0,none⟩=some (.int .i64 z)) :
  Calls Tryz.prog 62 #[.slice (some ⟨g0,0,none⟩) 1 1,.int .i64 (n:Int)] w λe w'=>e = .returned (.slice (some ⟨w.heap.size,0,none⟩) n n)/\w'.ownsRow w.heap.size 3 1 (.slice (some ⟨w.heap.size,0,none⟩) n n) n (kz .i64 (List.replicate n z))/\Below w.heap.size w w':=by
 have hlt:g0<w.heap.size:=World.block_lt_of_cell? _ _ hc
 obtain⟨i0,hi0,hz0,hz1,jc⟩:=info_parts JX
 have HM:=hid (mul_one n hn w)
 have HC:=hid hc
 have HI:Hid (Tryz.prog.info? 3=some i0/\i0.zero=some (.int .i64 0)/\i0.size=1/\i0.bytes=8):=⟨hi0,hz0,hz1,jc⟩
 clear hc hi0 hz0 hz1 jc
 go_in
 go_wp2_with fail
 refine HM.out.mono ?_
 rintro e w' ⟨rfl,rfl⟩
 clear HM
 obtain⟨k0,SY⟩:∃k0,k0=Nat.min 1 n:=⟨_,rfl⟩
 have hk1:k0<=n:=by rw[SY];exact Nat.min_le_right _ _
 have SZ:k0<=1:=by rw[SY];exact Nat.min_le_left _ _
 have iu:Hid (0<n->0<k0):=λh=>by rw[SY];exact Nat.lt_min.2 ⟨by omega,h⟩
 have lz:Hid ((kz IntKind.i64 (List.replicate k0 z)).length=Nat.min 1 n):=by show _=_;rw[← SY];simp[kz]
 obtain⟨cs,hcs⟩:∃cs,cs=kz .i64 (List.replicate k0 z):=⟨_,rfl⟩
 have AU:Hid (goInt cs.length = .int .i64 (k0:Int)):=by show _=_;rw[hcs];simp[kz,goInt]
 rw[← hcs]at lz
 have zQ:=hid hcs
 clear SY hcs
 go_wp2_with (first
  | (at_make;refine wpList_make_full _ rfl (.tmp 29) (.tmp 29) _ rfl w.heap.size 3 i0 _ 1 Tryz.underlying59 HI.out.1 HI.out.2.1 HI.out.2.2.1 .i64 .i64 (n:Int) (n:Int) n rfl rfl rfl rfl (by rw[HI.out.2.2.2];omega) (by unfold maxLen;omega) zl ?_;intro w1 hown zS;rw[F8]at hown;have HG:=hid (xk hown);have HB:=hid ((Below.refl w.heap.size w).grown zS zl zs);clear hown zS)
  | (
    refine pU 33 ?_;refine wpList_copy_splice rfl (.tmp 31) (.tmp 32) _ _ rfl 3 Tryz.underlying59 AR _ _ n n 1 1 rfl rfl w.heap.size 0 _ 3 HG.out cs lz.out ?hpos (by rw[ud _ _ _ (Nat.zero_le _),zQ.out];simp[kz];omega) (by rw[zQ.out];exact EH _ _) w.heap.size w HB.out zl ?_
    case hpos =>
     intro _
     refine⟨rfl,_,rfl,λj v hv=>?_⟩
     have hj:j<k0:=by have:=(List.getElem?_eq_some_iff.1 hv).1;rw[zQ.out]at this;simpa[kz]using this
     obtain rfl:j=0:=zo
     have e:(Addr.add ⟨g0,0,none⟩ 0)=⟨g0,0,none⟩:=rfl
     rw[e,(HB.out.cell (p:=⟨g0,0,none⟩) hlt).trans HC.out]
     have h2:=(List.getElem?_eq_some_iff.1 hv).2
     rw[← h2]
     simp[zQ.out,kz]
    intro w2 oI aZ
    rw[AU.out]
    have Vj:Hid (w2.heap[w.heap.size]? = some (.cells (gW n k0 z).toArray 3 (0,0))):=by
     have h3:=oI.out
     have e:gW n 0 0=gW n 0 z:=by simp[gW]
     rw[zQ.out,e,xj n 0 z (Nat.zero_le _) _ zo,Nat.zero_add]at h3
     exact h3
    have dG:=hid aZ
    clear oI aZ HG HB HC HI lz))
 clear AU zQ
 go_loopw [8] (λvk wr=>∃k:Nat,vk = .int .i64 (k:Int)/\k<=n/\Hid (0<n->0<k)/\Hid (wr.heap[w.heap.size]? = some (.cells (gW n k z).toArray 3 (0,0)))/\Hid (Below w.heap.size w wr)) (λvk _=>n - (RowKit.intOf vk).toNat)
 case atStart=>exact⟨k0,rfl,hk1,iu,Vj,dG⟩
 case round =>
  obtain⟨k,rfl,hk,HP,XO,XP⟩:=hrel;by_cases hlt:k<n
  ·have hne : ¬n=k:=zo;go_wp2_with fail;obtain⟨m,hm⟩:∃m,m=Nat.min k (n - k):=⟨_,rfl⟩
   have lX:k+m<=n:=by
    have:m<=n - k:=by rw[hm];exact Nat.min_le_right _ _
    omega
   have F_:m<=k:=by rw[hm];exact Nat.min_le_left _ _
   have XQ:Hid (0<m):=by show 0<m;rw[hm];exact Nat.lt_min.2 ⟨HP.out zo,by omega⟩
   have XR:Hid ((kz IntKind.i64 (List.replicate m z)).length=Nat.min k (n - k)):=by show _=_;rw[← hm];simp[kz]
   have Si:Hid ((kz IntKind.i64 (List.replicate m z)).length=m):=by show _=_;simp[kz]
   obtain⟨cs,hcs⟩:∃cs,cs=kz .i64 (List.replicate m z):=⟨_,rfl⟩;rw[← hcs]at XR Si;have zQ:=hid hcs;have Vk:=hid (show wr.drew.heap[w.heap.size]? = some (.cells (gW n k z).toArray 3 (0,0))from XO.out);have Vl:=hid XP.out.drew
   have HE:Hid (IntKind.i64.wrap ((k:Int)+(m:Int))=((k+m:Nat):Int)):=by show _=_;rw[IntWalk.i64_in _ zo];omega
   clear hm hcs;refine wp_region_held_drew (S:=λw'=>Hid (Below w.heap.size w w')) zk (Vl) (λhH=>?_);refine zr 0 38 hH ?_;refine zr 1 39 hH ?_;refine zr 2 40 hH ?_;refine zr 3 41 hH ?_;refine zr 4 42 hH ?_;refine zr 5 43 hH ?_;refine zr 6 44 hH ?_
   try simp only[zq]
   refine zrd 7 (λK hK=>?_);refine step_copy_splice rfl (.tmp 41) (.tmp 44) _ _ rfl 3 Tryz.underlying59 AR _ _ (n - k) (n - k) k n rfl rfl w.heap.size k _ 3 Vk.out cs XR.out ?hpos (by rw[ud _ _ _ hk,Si.out];omega) (by rw[zQ.out];exact EH _ _) w.heap.size w hH.out zl ?_
   case hpos =>
    intro _;refine⟨rfl,_,rfl,λj v hv=>?_⟩
    have hj:j<m:=by have:=(List.getElem?_eq_some_iff.1 hv).1;rw[Si.out]at this;exact this
    have e:(Addr.add ⟨w.heap.size,0,none⟩ j)=⟨w.heap.size,j,none⟩:=by unfold Addr.add;split <;> simp_all
    rw[e,cell_of_row _ _ j _ _ (0,0) Vk.out,List.getElem?_toArray,F7 n k z j zo,← hv,zQ.out];simp[kz,hj]
   rw[Si.out];intro w3 JY eP;change K (Act.put _ (some 45) (.int .i64 (m:Int))) _
   have MU:Hid (w3.heap[w.heap.size]? = some (.cells (gW n (k+m) z).toArray 3 (0,0))):=by
    have h3:=JY.out;rw[zQ.out,xj n k z hk _ lX]at h3;exact h3
   clear JY Vk;refine hK.out _ _ (hid eP) (λhH=>?_);clear hK K;clear eP
   try simp only[zq]
   refine zqt 8 (some 46) ?v8 rfl rfl ?c8 hH ?r8
   case c8=>(intro w' _;go_simp;rw[HE.out])
   try simp only[zq]
   refine zr 9 8 hH ?_
   try simp only[zq]
   refine wpAnyH_done zk ?_ _;have fF:=hH;clear hH;go_wp2_with fail;go_roundw
   case rel=>exact⟨k+m,by go_num,lX,λ_=>by have:=XQ.out;omega,MU,fF⟩
   case measure=>have:=XQ.out;simp[RowKit.intOf];omega
  ·obtain rfl:k=n:=zo;go_wp2_with fail;go_ret
   have e:gW k k z=kz .i64 (List.replicate k z):=by simp[gW]
   exact⟨rfl,e▸F9 zl hn (ud _ _ _ zl) XO.out,XP.out⟩
theorem ae(w:World)(o:Obj):Below w.heap.size w (w.alloc o):=(Below.refl _ w).alloc zl o
theorem C3(n:Nat):(madeCells (Value.int .u64 0).cells (n*1)).toList=kz .u64 (List.replicate n 0):=by
 rw[show(Value.int IntKind.u64 0).cells = #[.int .u64 0]from rfl,toList_madeCells_one];simp[kz]
section
variable {w w':World}{O O':Nat->Prop}{B:Nat}{s:Ms}
end
theorem QC{T:Uu}{w0 w:World}{n m b1 b2:Nat}{z:Int}(hb:Below w0.heap.size w0 w)(h1:w.ownsRow w0.heap.size T.tw 1 (.slice (some ⟨b1,0,none⟩) n n) n (kz .u64 (List.replicate n 0)))
  (h2:w.ownsRow w0.heap.size T.th 1 (.slice (some ⟨b2,0,none⟩) m m) m (kz T.k (List.replicate m z))) (hne:b1≠b2) :
  Mm T (w.alloc (.cells #[.slice (some ⟨b1,0,none⟩) n n,.slice (some ⟨b2,0,none⟩) m m,.slice none 0 0] T.t)) (λj=>w0.heap.size<=j/\j<w.heap.size+1) w.heap.size (.slice (some ⟨b1,0,none⟩) n n) (.slice (some ⟨b2,0,none⟩) m m) (.slice none 0 0) (List.replicate n 0) (List.replicate m z) []:=by
 have l1:w0.heap.size<=b1/\b1<w.heap.size:=h1.lt _ rfl
 have l2:w0.heap.size<=b2/\b2<w.heap.size:=h2.lt _ rfl
 have hs:=hb.size
 exact {
  blk:=aF.box _ _ _
  wr:=by rw[List.length_replicate];exact cP (bC h1 (ae w _)) (λ_ _=>Nat.zero_le _)
  hr:=by rw[List.length_replicate];exact cP (bC h2 (ae w _)) (λ_ _=>Nat.zero_le _)
  lr:=World.ownsRow_nil _ _ _ _
  wo:=λg e=>by obtain rfl:b1=g:=Option.some.inj e;exact⟨⟨l1.1,by omega⟩,by omega⟩
  ho:=λg e=>by obtain rfl:b2=g:=Option.some.inj e;exact⟨⟨l2.1,by omega⟩,by omega,λe2=>hne (Option.some.inj e2)⟩
  lo:=λg e=>by cases e
  ob:=⟨hs,by omega⟩
  lt:=λj hj=>by simp only[World.size_alloc];exact hj.2 }
theorem gF{w0 w:World}{a b:Int}{n m b1 b2:Nat}(hb:Below w0.heap.size w0 w)(h1:w.ownsRow w0.heap.size 56 1 (.slice (some ⟨b1,0,none⟩) n n) n (madeCells (Value.int .u64 0).cells (n*1)).toList)
  (h2:w.ownsRow w0.heap.size 3 1 (.slice (some ⟨b2,0,none⟩) m m) m (kz .i64 (List.replicate m (-1)))) (hne:b1≠b2) (hn:aQ a=n) (hm:aQ b=m) :
  Mm T1 (w.alloc (.cells #[.slice (some ⟨b1,0,none⟩) n n,.slice (some ⟨b2,0,none⟩) m m,.slice none 0 0] 128)) (λj=>w0.heap.size<=j/\j<w.heap.size+1) w.heap.size (.slice (some ⟨b1,0,none⟩) n n) (.slice (some ⟨b2,0,none⟩) m m) (.slice none 0 0) (l7 a b).ws (l7 a b).hs (l7 a b).ls:=by
 subst hn hm
 rw[C3]at h1
 exact QC (T:=T1) hb h1 h2 hne
theorem NI(a b:Int)(w:World):Calls Tryz.prog 32 #[.int .i64 a,.int .i64 b] w λe w'=>∃O B,e = .returned (ptr B)/\kA w' O B (l7 a b)/\Below w.heap.size w w'/\∀j,O j->w.heap.size<=j:=by
 have Sj:=qc a;have I1:=qc b
 have AU:Hid (∀x y:Int,(x=a/\y=(aQ a:Int))\/(x=b/\y=(aQ b:Int))->∀W,Calls Tryz.prog 61 #[.int .i64 x] W λe w'=>e = .returned (.int .i64 y)/\W=w'):=by
  intro x y h W
  rcases h with⟨rfl,rfl⟩ | ⟨rfl,rfl⟩
  ·exact nG _ W
  ·exact nG _ W
 obtain⟨n,hn⟩:∃n,aQ a=n:=⟨_,rfl⟩;obtain⟨m,hm⟩:∃m,aQ b=m:=⟨_,rfl⟩;rw[hn,hm]at AU;rw[hn]at Sj;rw[hm]at I1;have hn0:n<=1000000000000:=zo;have hm0:m<=1000000000000:=zo;have HN:=hid hn;have HM:=hid hm;clear hn hm;go_in;go_wp2_with fail;refine wp_region_held_drew (S:=λw'=>Below w.heap.size w w') zk ((Below.refl _ _).drew) (λhH=>?_);refine zr 0 5 hH ?_;refine zr 4 9 hH ?_
 try simp only[zq]
 refine wpAnyH_ready (rs:=[1,3]) zk zs (AllReadyH.cons rfl (λK hK=>?_) (AllReadyH.cons rfl (λK hK=>?_) (AllReadyH.nil)))
 ·go_simp;refine(AU.out a n (.inl ⟨rfl,rfl⟩) _).mono ?_;rintro e w9 ⟨rfl,rfl⟩;refine hK.out _ _ (hH) (λhH=>?_);clear hK K
  try simp only[zq]
  refine wpAnyH_ready (rs:=[2,3,5]) zk zs (AllReadyH.cons rfl (λK hK=>?_) (AllReadyH.cons rfl (λK hK=>?_) (AllReadyH.cons rfl (λK hK=>?_) (AllReadyH.nil))))
  ·refine eJ rfl (.tmp 6) (.tmp 6) 125 rfl w.heap.size 56 (.int .u64 0) 1 8 Tryz.underlying125 dO zo .i64 n rfl rfl hn0 hH.size ?_;intro w2 hown j1;change K (Act.put _ (some 7) (.slice (some ⟨_,0,none⟩) n n)) _;have HW:=hown;refine hK.out _ _ (hH.trans (j1.out.mono hH.size)) (λhH=>?_);clear hK K;clear hown j1
   try simp only[zq]
   refine wpAnyH_ready (rs:=[3,5]) zk zs (AllReadyH.cons rfl (λK hK=>?_) (AllReadyH.cons rfl (λK hK=>?_) (AllReadyH.nil)))
   ·go_simp;refine kB (λV hV=>?_);have jp:Below _ _ V:=(by rw[hV];exact ae _ _);have HX:Hid (V.cell? ⟨_,0,none⟩=some (.int .i64 (-1))):=(show _=_ by rw[hV];exact(aF.box _ _ _).cell 0 _ rfl);replace HW:=hid (bC HW.out jp);refine hK.out _ _ (hH.trans (jp.mono hH.size)) (λhH=>?_);clear hK K;clear hV jp
    try simp only[zq]
    refine zrd 5 (λK hK=>?_);go_simp;refine(AU.out b m (.inr ⟨rfl,rfl⟩) _).mono ?_;rintro e w9 ⟨rfl,rfl⟩;refine hK.out _ _ (hH) (λhH=>?_);clear hK K
    try simp only[zq]
    refine zrd 6 (λK hK=>?_);go_simp;have qZ:=hid (Nat.ne_of_lt (HW.out.lt _ rfl).2);refine(cQ _ (-1) m I1 _ HX.out).mono ?_;rintro e w6 ⟨rfl,hr,iI⟩;have HR:=hid (cP (b2:=w.heap.size) hr (λg hg=>Nat.le_trans hH.size (hr.lt g hg).1));replace HW:=hid (bC HW.out iI);refine hK.out _ _ (hH.trans (iI.mono hH.size)) (λhH=>?_);clear hK K;clear hr iI HX
    try simp only[zq]
    refine zr 7 12 hH ?_
    try simp only[zq]
    refine zrd 8 (λK hK=>?_);have vS:=hid hH;go_simp;refine hK.out _ _ (hH.trans ((ae _ _).mono hH.size)) (λhH=>?_);clear hK K
    try simp only[zq]
    refine zr 9 4 hH ?_
    try simp only[zq]
    refine wpAnyH_done zk ?_ _;have vT:=hid hH;clear hH;go_wp2_with fail;go_ret;have HP:=gF vS.out HW.out HR.out qZ.out HN.out HM.out;exact⟨_,_,rfl,⟨⟨_,_,_,HP⟩,fR _ _⟩,vT.out,λj hj=>And.left hj⟩
   ·go_simp;refine(AU.out b m (.inr ⟨rfl,rfl⟩) _).mono ?_;rintro e w9 ⟨rfl,rfl⟩;refine hK.out _ _ (hH) (λhH=>?_);clear hK K
    try simp only[zq]
    refine zrd 3 (λK hK=>?_);go_simp;refine kB (λV hV=>?_);have jp:Below _ _ V:=(by rw[hV];exact ae _ _);have HX:Hid (V.cell? ⟨_,0,none⟩=some (.int .i64 (-1))):=(show _=_ by rw[hV];exact(aF.box _ _ _).cell 0 _ rfl);replace HW:=hid (bC HW.out jp);refine hK.out _ _ (hH.trans (jp.mono hH.size)) (λhH=>?_);clear hK K;clear hV jp
    try simp only[zq]
    refine zrd 6 (λK hK=>?_);go_simp;have qZ:=hid (Nat.ne_of_lt (HW.out.lt _ rfl).2);refine(cQ _ (-1) m I1 _ HX.out).mono ?_;rintro e w6 ⟨rfl,hr,iI⟩;have HR:=hid (cP (b2:=w.heap.size) hr (λg hg=>Nat.le_trans hH.size (hr.lt g hg).1));replace HW:=hid (bC HW.out iI);refine hK.out _ _ (hH.trans (iI.mono hH.size)) (λhH=>?_);clear hK K;clear hr iI HX
    try simp only[zq]
    refine zr 7 12 hH ?_
    try simp only[zq]
    refine zrd 8 (λK hK=>?_);have vS:=hid hH;go_simp;refine hK.out _ _ (hH.trans ((ae _ _).mono hH.size)) (λhH=>?_);clear hK K
    try simp only[zq]
    refine zr 9 4 hH ?_
    try simp only[zq]
    refine wpAnyH_done zk ?_ _;have vT:=hid hH;clear hH;go_wp2_with fail;go_ret;have HP:=gF vS.out HW.out HR.out qZ.out HN.out HM.out;exact⟨_,_,rfl,⟨⟨_,_,_,HP⟩,fR _ _⟩,vT.out,λj hj=>And.left hj⟩
  ·go_simp;refine kB (λV hV=>?_);have jp:Below _ w.drew V:=(by rw[hV];exact ae w.drew _);have HX:Hid (V.cell? ⟨_,0,none⟩=some (.int .i64 (-1))):=(show _=_ by rw[hV];exact(aF.box w.drew _ _).cell 0 _ rfl);refine hK.out _ _ (hH.trans (jp.mono hH.size)) (λhH=>?_);clear hK K;clear hV jp
   try simp only[zq]
   refine wpAnyH_ready (rs:=[2,5]) zk zs (AllReadyH.cons rfl (λK hK=>?_) (AllReadyH.cons rfl (λK hK=>?_) (AllReadyH.nil)))
   ·refine eJ rfl (.tmp 6) (.tmp 6) 125 rfl w.heap.size 56 (.int .u64 0) 1 8 Tryz.underlying125 dO zo .i64 n rfl rfl hn0 hH.size ?_;intro w2 hown j1;change K (Act.put _ (some 7) (.slice (some ⟨_,0,none⟩) n n)) _;have HW:=hown;replace HX:=hid ((j1.out.cell (p:=⟨_,0,none⟩) (World.block_lt_of_cell? _ _ HX.out)).trans HX.out);refine hK.out _ _ (hH.trans (j1.out.mono hH.size)) (λhH=>?_);clear hK K;clear hown j1
    try simp only[zq]
    refine zrd 5 (λK hK=>?_);go_simp;refine(AU.out b m (.inr ⟨rfl,rfl⟩) _).mono ?_;rintro e w9 ⟨rfl,rfl⟩;refine hK.out _ _ (hH) (λhH=>?_);clear hK K
    try simp only[zq]
    refine zrd 6 (λK hK=>?_);go_simp;have qZ:=hid (Nat.ne_of_lt (HW.out.lt _ rfl).2);refine(cQ _ (-1) m I1 _ HX.out).mono ?_;rintro e w6 ⟨rfl,hr,iI⟩;have HR:=hid (cP (b2:=w.heap.size) hr (λg hg=>Nat.le_trans hH.size (hr.lt g hg).1));replace HW:=hid (bC HW.out iI);refine hK.out _ _ (hH.trans (iI.mono hH.size)) (λhH=>?_);clear hK K;clear hr iI HX
    try simp only[zq]
    refine zr 7 12 hH ?_
    try simp only[zq]
    refine zrd 8 (λK hK=>?_);have vS:=hid hH;go_simp;refine hK.out _ _ (hH.trans ((ae _ _).mono hH.size)) (λhH=>?_);clear hK K
    try simp only[zq]
    refine zr 9 4 hH ?_
    try simp only[zq]
    refine wpAnyH_done zk ?_ _;have vT:=hid hH;clear hH;go_wp2_with fail;go_ret;have HP:=gF vS.out HW.out HR.out qZ.out HN.out HM.out;exact⟨_,_,rfl,⟨⟨_,_,_,HP⟩,fR _ _⟩,vT.out,λj hj=>And.left hj⟩
   ·go_simp;refine(AU.out b m (.inr ⟨rfl,rfl⟩) _).mono ?_;rintro e w9 ⟨rfl,rfl⟩;refine hK.out _ _ (hH) (λhH=>?_);clear hK K
    try simp only[zq]
    refine wpAnyH_ready (rs:=[2,6]) zk zs (AllReadyH.cons rfl (λK hK=>?_) (AllReadyH.cons rfl (λK hK=>?_) (AllReadyH.nil)))
    ·refine eJ rfl (.tmp 6) (.tmp 6) 125 rfl w.heap.size 56 (.int .u64 0) 1 8 Tryz.underlying125 dO zo .i64 n rfl rfl hn0 hH.size ?_;intro w2 hown j1;change K (Act.put _ (some 7) (.slice (some ⟨_,0,none⟩) n n)) _;have HW:=hown;replace HX:=hid ((j1.out.cell (p:=⟨_,0,none⟩) (World.block_lt_of_cell? _ _ HX.out)).trans HX.out);refine hK.out _ _ (hH.trans (j1.out.mono hH.size)) (λhH=>?_);clear hK K;clear hown j1
     try simp only[zq]
     refine zrd 6 (λK hK=>?_);go_simp;have qZ:=hid (Nat.ne_of_lt (HW.out.lt _ rfl).2);refine(cQ _ (-1) m I1 _ HX.out).mono ?_;rintro e w6 ⟨rfl,hr,iI⟩;have HR:=hid (cP (b2:=w.heap.size) hr (λg hg=>Nat.le_trans hH.size (hr.lt g hg).1));replace HW:=hid (bC HW.out iI);refine hK.out _ _ (hH.trans (iI.mono hH.size)) (λhH=>?_);clear hK K;clear hr iI HX
     try simp only[zq]
     refine zr 7 12 hH ?_
     try simp only[zq]
     refine zrd 8 (λK hK=>?_);have vS:=hid hH;go_simp;refine hK.out _ _ (hH.trans ((ae _ _).mono hH.size)) (λhH=>?_);clear hK K
     try simp only[zq]
     refine zr 9 4 hH ?_
     try simp only[zq]
     refine wpAnyH_done zk ?_ _;have vT:=hid hH;clear hH;go_wp2_with fail;go_ret;have HP:=gF vS.out HW.out HR.out qZ.out HN.out HM.out;exact⟨_,_,rfl,⟨⟨_,_,_,HP⟩,fR _ _⟩,vT.out,λj hj=>And.left hj⟩
    ·go_simp;refine(cQ _ (-1) m I1 _ HX.out).mono ?_;rintro e w6 ⟨rfl,hr,iI⟩;have HR:=hid (cP (b2:=w.heap.size) hr (λg hg=>Nat.le_trans hH.size (hr.lt g hg).1));refine hK.out _ _ (hH.trans (iI.mono hH.size)) (λhH=>?_);clear hK K;clear hr iI HX
     try simp only[zq]
     refine zrd 2 (λK hK=>?_);have qZ:=hid (Nat.ne_of_gt (HR.out.lt _ rfl).2);refine eJ rfl (.tmp 6) (.tmp 6) 125 rfl w.heap.size 56 (.int .u64 0) 1 8 Tryz.underlying125 dO zo .i64 n rfl rfl hn0 hH.size ?_;intro w2 hown j1;change K (Act.put _ (some 7) (.slice (some ⟨_,0,none⟩) n n)) _;have HW:=hown;replace HR:=hid (bC HR.out j1.out);refine hK.out _ _ (hH.trans (j1.out.mono hH.size)) (λhH=>?_);clear hK K;clear hown j1
     try simp only[zq]
     refine zr 7 12 hH ?_
     try simp only[zq]
     refine zrd 8 (λK hK=>?_);have vS:=hid hH;go_simp;refine hK.out _ _ (hH.trans ((ae _ _).mono hH.size)) (λhH=>?_);clear hK K
     try simp only[zq]
     refine zr 9 4 hH ?_
     try simp only[zq]
     refine wpAnyH_done zk ?_ _;have vT:=hid hH;clear hH;go_wp2_with fail;go_ret;have HP:=gF vS.out HW.out HR.out qZ.out HN.out HM.out;exact⟨_,_,rfl,⟨⟨_,_,_,HP⟩,fR _ _⟩,vT.out,λj hj=>And.left hj⟩
  ·go_simp;refine(AU.out b m (.inr ⟨rfl,rfl⟩) _).mono ?_;rintro e w9 ⟨rfl,rfl⟩;refine hK.out _ _ (hH) (λhH=>?_);clear hK K
   try simp only[zq]
   refine wpAnyH_ready (rs:=[2,3]) zk zs (AllReadyH.cons rfl (λK hK=>?_) (AllReadyH.cons rfl (λK hK=>?_) (AllReadyH.nil)))
   ·refine eJ rfl (.tmp 6) (.tmp 6) 125 rfl w.heap.size 56 (.int .u64 0) 1 8 Tryz.underlying125 dO zo .i64 n rfl rfl hn0 hH.size ?_;intro w2 hown j1;change K (Act.put _ (some 7) (.slice (some ⟨_,0,none⟩) n n)) _;have HW:=hown;refine hK.out _ _ (hH.trans (j1.out.mono hH.size)) (λhH=>?_);clear hK K;clear hown j1
    try simp only[zq]
    refine zrd 3 (λK hK=>?_);go_simp;refine kB (λV hV=>?_);have jp:Below _ _ V:=(by rw[hV];exact ae _ _);have HX:Hid (V.cell? ⟨_,0,none⟩=some (.int .i64 (-1))):=(show _=_ by rw[hV];exact(aF.box _ _ _).cell 0 _ rfl);replace HW:=hid (bC HW.out jp);refine hK.out _ _ (hH.trans (jp.mono hH.size)) (λhH=>?_);clear hK K;clear hV jp
    try simp only[zq]
    refine zrd 6 (λK hK=>?_);go_simp;have qZ:=hid (Nat.ne_of_lt (HW.out.lt _ rfl).2);refine(cQ _ (-1) m I1 _ HX.out).mono ?_;rintro e w6 ⟨rfl,hr,iI⟩;have HR:=hid (cP (b2:=w.heap.size) hr (λg hg=>Nat.le_trans hH.size (hr.lt g hg).1));replace HW:=hid (bC HW.out iI);refine hK.out _ _ (hH.trans (iI.mono hH.size)) (λhH=>?_);clear hK K;clear hr iI HX
    try simp only[zq]
    refine zr 7 12 hH ?_
    try simp only[zq]
    refine zrd 8 (λK hK=>?_);have vS:=hid hH;go_simp;refine hK.out _ _ (hH.trans ((ae _ _).mono hH.size)) (λhH=>?_);clear hK K
    try simp only[zq]
    refine zr 9 4 hH ?_
    try simp only[zq]
    refine wpAnyH_done zk ?_ _;have vT:=hid hH;clear hH;go_wp2_with fail;go_ret;have HP:=gF vS.out HW.out HR.out qZ.out HN.out HM.out;exact⟨_,_,rfl,⟨⟨_,_,_,HP⟩,fR _ _⟩,vT.out,λj hj=>And.left hj⟩
   ·go_simp;refine kB (λV hV=>?_);have jp:Below _ w.drew V:=(by rw[hV];exact ae w.drew _);have HX:Hid (V.cell? ⟨_,0,none⟩=some (.int .i64 (-1))):=(show _=_ by rw[hV];exact(aF.box w.drew _ _).cell 0 _ rfl);refine hK.out _ _ (hH.trans (jp.mono hH.size)) (λhH=>?_);clear hK K;clear hV jp
    try simp only[zq]
    refine wpAnyH_ready (rs:=[2,6]) zk zs (AllReadyH.cons rfl (λK hK=>?_) (AllReadyH.cons rfl (λK hK=>?_) (AllReadyH.nil)))
    ·refine eJ rfl (.tmp 6) (.tmp 6) 125 rfl w.heap.size 56 (.int .u64 0) 1 8 Tryz.underlying125 dO zo .i64 n rfl rfl hn0 hH.size ?_;intro w2 hown j1;change K (Act.put _ (some 7) (.slice (some ⟨_,0,none⟩) n n)) _;have HW:=hown;replace HX:=hid ((j1.out.cell (p:=⟨_,0,none⟩) (World.block_lt_of_cell? _ _ HX.out)).trans HX.out);refine hK.out _ _ (hH.trans (j1.out.mono hH.size)) (λhH=>?_);clear hK K;clear hown j1
     try simp only[zq]
     refine zrd 6 (λK hK=>?_);go_simp;have qZ:=hid (Nat.ne_of_lt (HW.out.lt _ rfl).2);refine(cQ _ (-1) m I1 _ HX.out).mono ?_;rintro e w6 ⟨rfl,hr,iI⟩;have HR:=hid (cP (b2:=w.heap.size) hr (λg hg=>Nat.le_trans hH.size (hr.lt g hg).1));replace HW:=hid (bC HW.out iI);refine hK.out _ _ (hH.trans (iI.mono hH.size)) (λhH=>?_);clear hK K;clear hr iI HX
     try simp only[zq]
     refine zr 7 12 hH ?_
     try simp only[zq]
     refine zrd 8 (λK hK=>?_);have vS:=hid hH;go_simp;refine hK.out _ _ (hH.trans ((ae _ _).mono hH.size)) (λhH=>?_);clear hK K
     try simp only[zq]
     refine zr 9 4 hH ?_
     try simp only[zq]
     refine wpAnyH_done zk ?_ _;have vT:=hid hH;clear hH;go_wp2_with fail;go_ret;have HP:=gF vS.out HW.out HR.out qZ.out HN.out HM.out;exact⟨_,_,rfl,⟨⟨_,_,_,HP⟩,fR _ _⟩,vT.out,λj hj=>And.left hj⟩
    ·go_simp;refine(cQ _ (-1) m I1 _ HX.out).mono ?_;rintro e w6 ⟨rfl,hr,iI⟩;have HR:=hid (cP (b2:=w.heap.size) hr (λg hg=>Nat.le_trans hH.size (hr.lt g hg).1));refine hK.out _ _ (hH.trans (iI.mono hH.size)) (λhH=>?_);clear hK K;clear hr iI HX
     try simp only[zq]
     refine zrd 2 (λK hK=>?_);have qZ:=hid (Nat.ne_of_gt (HR.out.lt _ rfl).2);refine eJ rfl (.tmp 6) (.tmp 6) 125 rfl w.heap.size 56 (.int .u64 0) 1 8 Tryz.underlying125 dO zo .i64 n rfl rfl hn0 hH.size ?_;intro w2 hown j1;change K (Act.put _ (some 7) (.slice (some ⟨_,0,none⟩) n n)) _;have HW:=hown;replace HR:=hid (bC HR.out j1.out);refine hK.out _ _ (hH.trans (j1.out.mono hH.size)) (λhH=>?_);clear hK K;clear hown j1
     try simp only[zq]
     refine zr 7 12 hH ?_
     try simp only[zq]
     refine zrd 8 (λK hK=>?_);have vS:=hid hH;go_simp;refine hK.out _ _ (hH.trans ((ae _ _).mono hH.size)) (λhH=>?_);clear hK K
     try simp only[zq]
     refine zr 9 4 hH ?_
     try simp only[zq]
     refine wpAnyH_done zk ?_ _;have vT:=hid hH;clear hH;go_wp2_with fail;go_ret;have HP:=gF vS.out HW.out HR.out qZ.out HN.out HM.out;exact⟨_,_,rfl,⟨⟨_,_,_,HP⟩,fR _ _⟩,vT.out,λj hj=>And.left hj⟩
 ·go_simp;refine kB (λV hV=>?_);have jp:Below _ w.drew V:=(by rw[hV];exact ae w.drew _);have HX:Hid (V.cell? ⟨_,0,none⟩=some (.int .i64 (-1))):=(show _=_ by rw[hV];exact(aF.box w.drew _ _).cell 0 _ rfl);refine hK.out _ _ (hH.trans (jp.mono hH.size)) (λhH=>?_);clear hK K;clear hV jp
  try simp only[zq]
  refine zrd 1 (λK hK=>?_);go_simp;refine(AU.out a n (.inl ⟨rfl,rfl⟩) _).mono ?_;rintro e w9 ⟨rfl,rfl⟩;refine hK.out _ _ (hH) (λhH=>?_);clear hK K
  try simp only[zq]
  refine wpAnyH_ready (rs:=[2,5]) zk zs (AllReadyH.cons rfl (λK hK=>?_) (AllReadyH.cons rfl (λK hK=>?_) (AllReadyH.nil)))
  ·refine eJ rfl (.tmp 6) (.tmp 6) 125 rfl w.heap.size 56 (.int .u64 0) 1 8 Tryz.underlying125 dO zo .i64 n rfl rfl hn0 hH.size ?_;intro w2 hown j1;change K (Act.put _ (some 7) (.slice (some ⟨_,0,none⟩) n n)) _;have HW:=hown;replace HX:=hid ((j1.out.cell (p:=⟨_,0,none⟩) (World.block_lt_of_cell? _ _ HX.out)).trans HX.out);refine hK.out _ _ (hH.trans (j1.out.mono hH.size)) (λhH=>?_);clear hK K;clear hown j1
   try simp only[zq]
   refine zrd 5 (λK hK=>?_);go_simp;refine(AU.out b m (.inr ⟨rfl,rfl⟩) _).mono ?_;rintro e w9 ⟨rfl,rfl⟩;refine hK.out _ _ (hH) (λhH=>?_);clear hK K
   try simp only[zq]
   refine zrd 6 (λK hK=>?_);go_simp;have qZ:=hid (Nat.ne_of_lt (HW.out.lt _ rfl).2);refine(cQ _ (-1) m I1 _ HX.out).mono ?_;rintro e w6 ⟨rfl,hr,iI⟩;have HR:=hid (cP (b2:=w.heap.size) hr (λg hg=>Nat.le_trans hH.size (hr.lt g hg).1));replace HW:=hid (bC HW.out iI);refine hK.out _ _ (hH.trans (iI.mono hH.size)) (λhH=>?_);clear hK K;clear hr iI HX
   try simp only[zq]
   refine zr 7 12 hH ?_
   try simp only[zq]
   refine zrd 8 (λK hK=>?_);have vS:=hid hH;go_simp;refine hK.out _ _ (hH.trans ((ae _ _).mono hH.size)) (λhH=>?_);clear hK K
   try simp only[zq]
   refine zr 9 4 hH ?_
   try simp only[zq]
   refine wpAnyH_done zk ?_ _;have vT:=hid hH;clear hH;go_wp2_with fail;go_ret;have HP:=gF vS.out HW.out HR.out qZ.out HN.out HM.out;exact⟨_,_,rfl,⟨⟨_,_,_,HP⟩,fR _ _⟩,vT.out,λj hj=>And.left hj⟩
  ·go_simp;refine(AU.out b m (.inr ⟨rfl,rfl⟩) _).mono ?_;rintro e w9 ⟨rfl,rfl⟩;refine hK.out _ _ (hH) (λhH=>?_);clear hK K
   try simp only[zq]
   refine wpAnyH_ready (rs:=[2,6]) zk zs (AllReadyH.cons rfl (λK hK=>?_) (AllReadyH.cons rfl (λK hK=>?_) (AllReadyH.nil)))
   ·refine eJ rfl (.tmp 6) (.tmp 6) 125 rfl w.heap.size 56 (.int .u64 0) 1 8 Tryz.underlying125 dO zo .i64 n rfl rfl hn0 hH.size ?_;intro w2 hown j1;change K (Act.put _ (some 7) (.slice (some ⟨_,0,none⟩) n n)) _;have HW:=hown;replace HX:=hid ((j1.out.cell (p:=⟨_,0,none⟩) (World.block_lt_of_cell? _ _ HX.out)).trans HX.out);refine hK.out _ _ (hH.trans (j1.out.mono hH.size)) (λhH=>?_);clear hK K;clear hown j1
    try simp only[zq]
    refine zrd 6 (λK hK=>?_);go_simp;have qZ:=hid (Nat.ne_of_lt (HW.out.lt _ rfl).2);refine(cQ _ (-1) m I1 _ HX.out).mono ?_;rintro e w6 ⟨rfl,hr,iI⟩;have HR:=hid (cP (b2:=w.heap.size) hr (λg hg=>Nat.le_trans hH.size (hr.lt g hg).1));replace HW:=hid (bC HW.out iI);refine hK.out _ _ (hH.trans (iI.mono hH.size)) (λhH=>?_);clear hK K;clear hr iI HX
    try simp only[zq]
    refine zr 7 12 hH ?_
    try simp only[zq]
    refine zrd 8 (λK hK=>?_);have vS:=hid hH;go_simp;refine hK.out _ _ (hH.trans ((ae _ _).mono hH.size)) (λhH=>?_);clear hK K
    try simp only[zq]
    refine zr 9 4 hH ?_
    try simp only[zq]
    refine wpAnyH_done zk ?_ _;have vT:=hid hH;clear hH;go_wp2_with fail;go_ret;have HP:=gF vS.out HW.out HR.out qZ.out HN.out HM.out;exact⟨_,_,rfl,⟨⟨_,_,_,HP⟩,fR _ _⟩,vT.out,λj hj=>And.left hj⟩
   ·go_simp;refine(cQ _ (-1) m I1 _ HX.out).mono ?_;rintro e w6 ⟨rfl,hr,iI⟩;have HR:=hid (cP (b2:=w.heap.size) hr (λg hg=>Nat.le_trans hH.size (hr.lt g hg).1));refine hK.out _ _ (hH.trans (iI.mono hH.size)) (λhH=>?_);clear hK K;clear hr iI HX
    try simp only[zq]
    refine zrd 2 (λK hK=>?_);have qZ:=hid (Nat.ne_of_gt (HR.out.lt _ rfl).2);refine eJ rfl (.tmp 6) (.tmp 6) 125 rfl w.heap.size 56 (.int .u64 0) 1 8 Tryz.underlying125 dO zo .i64 n rfl rfl hn0 hH.size ?_;intro w2 hown j1;change K (Act.put _ (some 7) (.slice (some ⟨_,0,none⟩) n n)) _;have HW:=hown;replace HR:=hid (bC HR.out j1.out);refine hK.out _ _ (hH.trans (j1.out.mono hH.size)) (λhH=>?_);clear hK K;clear hown j1
    try simp only[zq]
    refine zr 7 12 hH ?_
    try simp only[zq]
    refine zrd 8 (λK hK=>?_);have vS:=hid hH;go_simp;refine hK.out _ _ (hH.trans ((ae _ _).mono hH.size)) (λhH=>?_);clear hK K
    try simp only[zq]
    refine zr 9 4 hH ?_
    try simp only[zq]
    refine wpAnyH_done zk ?_ _;have vT:=hid hH;clear hH;go_wp2_with fail;go_ret;have HP:=gF vS.out HW.out HR.out qZ.out HN.out HM.out;exact⟨_,_,rfl,⟨⟨_,_,_,HP⟩,fR _ _⟩,vT.out,λj hj=>And.left hj⟩
end Me
end Go.Proofs.YtbhnbcadgmagpaaGreatDoor
namespace Go.Proofs.YtbhnbcadgmagpaaGreatDoor
open Go.ChangeShapes Go.WideShapes Go.ChangeAt Go.RowKit Go.aN Go.Lib
namespace Me
open bg
section
variable {w:World}{O:Nat->Prop}{B:Nat}{vw vh vl:Value}{ws hs:List Int}{ls:List Ac}
end
section
variable {w w':World}{O O':Nat->Prop}{B:Nat}{s:Ms}
end
end Me
end Go.Proofs.YtbhnbcadgmagpaaGreatDoor
