import Derived.Test.YtcockldefmmhbaaGreatDoorRows
import Derived.Test.YtcockldefmmhbaaGreatDoorJ10
import Derived.Test.YtcockldefmmhbaaGreatDoorComO
import Derived.WalkKit
import Derived.ProofKit
import Derived.OpenShut
import Derived.BigQuiet
import Derived.Lib.Hide
import Derived.Lib.LaidTab
import Derived.Lib.Fields
set_option linter.unusedVariables false
set_option linter.unusedSimpArgs false
namespace Go.Proofs.YtcockldefmmhbaaGreatDoor
open Go.ChangeShapes Go.WideShapes Go.ChangeAt Go.RowKit Go.Mtl Go.Lib
namespace Tx
open TxtM (Line)
def strV (l:List UInt8):Value:=.string ⟨l.toArray⟩
def Row (w:World) (T:TypeId) (B:Nat) (v:Value) (n:Nat) (xs:List Value):Prop :=
 (v = .slice none 0 0/\n=0/\xs=[]) ∨
 ∃ g cap cur,v = .slice (some ⟨g,0,none⟩) n cap/\g < B/\w.heap[g]? = some (.cells cur T (0,0))/\cur.toList.take xs.length=xs/\n<=cap/\cap<=maxLen
theorem Row.keep {w w':World} {T B n:Nat} {v:Value} {xs:List Value} (h:Row w T B v n xs) (hk:∀ g cur,g < B->w.heap[g]? = some (.cells cur T (0,0))->w'.heap[g]? = w.heap[g]?):Row w' T B v n xs:=by
 rcases h with h | ⟨g,cap,cur,h1,h2,h3,h4⟩
 ·exact .inl h
 ·exact .inr ⟨g,cap,cur,h1,h2,(hk g cur h2 h3).trans h3,h4⟩
theorem Row.mono {w:World} {T B B' n:Nat} {v:Value} {xs:List Value} (h:Row w T B v n xs) (hB:B<=B'):Row w T B' v n xs:=by
 rcases h with h | ⟨g,cap,cur,h1,h2,h3⟩
 ·exact .inl h
 ·exact .inr ⟨g,cap,cur,h1,by omega,h3⟩
theorem Row.lt {w:World} {T B n:Nat} {v:Value} {xs:List Value} (h:Row w T B v n xs) (hB:B<=w.heap.size):Row w T w.heap.size v n xs:=h.mono hB
theorem Row.of_own {w:World} {base T size n:Nat} {v:Value} {xs:List Value} (h:w.ownsRow base T size v n xs):Row w T w.heap.size v n xs:=by
 rcases h.2 with ⟨h1,h2⟩ | ⟨g,cap,cur,h1,h2,h3,h4,h5,h6,h7⟩
 ·refine .inl ⟨h1,h2,?_⟩
  have:=h.1
  subst h2
  exact List.eq_nil_of_length_eq_zero (by omega)
 ·exact .inr ⟨g,cap,cur,h1,(Array.getElem?_eq_some_iff.1 h3).1,h3,by rw [h.1];exact h7,h4,h5⟩
theorem Row.at_ {w:World} {T B n:Nat} {v:Value} {xs:List Value} (h:Row w T B v n xs) (hn:0 < n):∃ g cap,v = .slice (some ⟨g,0,none⟩) n cap/\g < B/\n<=cap/\cap<=maxLen/\∀ j u,xs[j]? = some u->w.cell? ⟨g,j,none⟩=some u:=by
 rcases h with ⟨_,h,_⟩ | ⟨g,cap,cur,h1,h2,h3,h4,h5,h6⟩
 ·omega
 ·refine ⟨g,cap,h1,h2,h5,h6,fun j u hu=>?_⟩
  rw [cell_of_row w g j cur T (0,0) h3]
  rw [← h4,List.getElem?_take] at hu
  split at hu
  ·simpa using hu
  ·cases hu
theorem Row.len {w:World} {T B n:Nat} {v:Value} {xs:List Value} (h:Row w T B v n xs):∃ A c,v = .slice A n c:=by
 rcases h with ⟨h1,h2,_⟩ | ⟨g,cap,cur,h1,_⟩
 ·exact ⟨none,0,by rw [h1,h2]⟩
 ·exact ⟨_,_,h1⟩
theorem Row.below {w w':World} {T B n:Nat} {v:Value} {xs:List Value} {C:Nat} (h:Row w T B v n xs) (hb:Below C w w') (hB:B<=C):Row w' T B v n xs :=
 h.keep fun g _ hg _=>hb.block g (by omega)
def Lns (w:World) (B:Nat):List Value->List Line->Prop
 | [],[]=>True
 | a :: b :: xs,(n,ws) :: ls=>a = .int .i64 (n:Int)/\Row w 9 B b ws.length (ws.map strV)/\Lns w B xs ls
 | _,_=>False
theorem Lns.keep {w w':World} {B:Nat} (hk:∀ g cur,g < B->w.heap[g]? = some (.cells cur 9 (0,0))->w'.heap[g]? = w.heap[g]?):∀ {xs:List Value} {ls:List Line},Lns w B xs ls->Lns w' B xs ls
 | [],[],_=>trivial
 | a :: b :: xs,(n,ws) :: ls,h=>⟨h.1,h.2.1.keep hk,Lns.keep hk h.2.2⟩
theorem Lns.mono {w:World} {B B':Nat} (hB:B<=B'):∀ {xs:List Value} {ls:List Line},Lns w B xs ls->Lns w B' xs ls
 | [],[],_=>trivial
 | a :: b :: xs,(n,ws) :: ls,h=>⟨h.1,h.2.1.mono hB,Lns.mono hB h.2.2⟩
theorem Lns.below {w w':World} {B C:Nat} {xs:List Value} {ls:List Line} (h:Lns w B xs ls) (hb:Below C w w') (hB:B<=C):Lns w' B xs ls :=
 h.keep fun g _ hg _=>hb.block g (by omega)
theorem Lns.snoc {w:World} {B:Nat} {b:Value} {n:Nat} {ws:List (List UInt8)} (hb:Row w 9 B b ws.length (ws.map strV)):∀ {xs:List Value} {ls:List Line},Lns w B xs ls->Lns w B (xs ++ [.int .i64 (n:Int),b]) (ls ++ [(n,ws)])
 | [],[],_=>⟨rfl,hb,trivial⟩
 | a :: c :: xs,(m,us) :: ls,h=>⟨h.1,h.2.1,Lns.snoc hb h.2.2⟩
theorem Lns.len {w:World} {B:Nat}:∀ {xs:List Value} {ls:List Line},Lns w B xs ls->xs.length=ls.length * 2
 | [],[],_=>rfl
 | a :: c :: xs,(m,us) :: ls,h=>by have:=Lns.len h.2.2;simp only [List.length_cons];omega
theorem Lns.at_ {w:World} {B:Nat}:∀ {xs:List Value} {ls:List Line} {k:Nat} {n:Nat} {ws:List (List UInt8)},Lns w B xs ls->ls[k]? = some (n,ws) →
  xs[k * 2]? = some (.int .i64 (n:Int))/\∃ b,xs[k * 2+1]? = some b/\Row w 9 B b ws.length (ws.map strV)
 | [],[],k,n,ws,_,hk=>by simp at hk
 | a :: c :: xs,(m,us) :: ls,0,n,ws,h,hk=>by
  simp at hk
  obtain ⟨rfl,rfl⟩:=hk
  exact ⟨by simp [h.1],c,by simp,h.2.1⟩
 | a :: c :: xs,(m,us) :: ls,k+1,n,ws,h,hk=>by
  have:=Lns.at_ h.2.2 (k:=k) (by simpa using hk)
  rw [show (k+1) * 2=k * 2+1+1 by omega]
  simpa using this
def Lines (w:World) (v:Value) (ls:List Line):Prop:=∃ xs,Row w 177 w.heap.size v ls.length xs/\Lns w w.heap.size xs ls
theorem Lines.below {w w':World} {v:Value} {ls:List Line} (h:Lines w v ls) (hb:Below w.heap.size w w'):Lines w' v ls:=by
 obtain ⟨xs,h1,h2⟩:=h
 exact ⟨xs,(h1.below hb (Nat.le_refl _)).mono hb.size,(h2.below hb (Nat.le_refl _)).mono hb.size⟩
theorem Lines.nil (w:World):Lines w (.slice none 0 0) []:=⟨[],.inl ⟨rfl,rfl,rfl⟩,trivial⟩
theorem Lines.len {w:World} {v:Value} {ls:List Line} (h:Lines w v ls):∃ A c,v = .slice A ls.length c:=h.choose_spec.1.len
theorem Lines.at_ {w:World} {v:Value} {ls:List Line} (h:Lines w v ls) {k n:Nat} {ws:List (List UInt8)} (hk:ls[k]? = some (n,ws)) :
  ∃ g cap b,v = .slice (some ⟨g,0,none⟩) ls.length cap/\g < w.heap.size/\w.cell? ⟨g,k * 2,none⟩=some (.int .i64 (n:Int))/\w.cell? ⟨g,k * 2+1,none⟩=some b/\Row w 9 w.heap.size b ws.length (ws.map strV):=by
 obtain ⟨xs,h1,h2⟩:=h
 have hlt:=(List.getElem?_eq_some_iff.1 hk).1
 obtain ⟨g,cap,hv,hg,_,_,hc⟩:=h1.at_ (by omega)
 obtain ⟨ha,b,hb,hr⟩:=h2.at_ hk
 exact ⟨g,cap,b,hv,hg,hc _ _ ha,hc _ _ hb,hr⟩
end Tx
end Go.Proofs.YtcockldefmmhbaaGreatDoor
