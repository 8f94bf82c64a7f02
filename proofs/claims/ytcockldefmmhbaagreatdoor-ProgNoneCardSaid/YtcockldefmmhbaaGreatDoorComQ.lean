import Derived.Lib.SmallJoins
import Derived.ChangeSame
import Derived.OpenShut
import Derived.Deep.Fields
import Derived.Deep.Slices
import Derived.WalkKit
import Derived.ProofKit
import Derived.Below
import Derived.Lib.Hide
set_option linter.unusedVariables false
namespace Go.Mtl
open Go.Joins Go.ChangeShapes Go.WideShapes Go.RowKit Go.Deep
def Sts (w:World) (B:Nat) (ks:List IntKind) (v:Value) (rs:List (List Int)):Prop :=
 ∃ A c,v = .slice A rs.length c/\rs.length<=c/\c<=9223372036854775807/\(0 < rs.length->∃ b off,A=some ⟨b,off,none⟩/\b < B ∧
  ∀ (i:Nat) (r:List Int),rs[i]? = some r->∀ (j:Nat) (k:IntKind) (z:Int),ks[j]? = some k->r[j]? = some z->w.cell? ⟨b,off+(i * ks.length+j),none⟩=some (Value.int k z))
def Fits (ks:List IntKind) (r:List Int):Prop:=r.length=ks.length/\∀ (j:Nat) (k:IntKind) (z:Int),ks[j]? = some k->r[j]? = some z->(Lit.int k z).wf=true
section
variable {w w':World} {B:Nat} {ks:List IntKind} {v:Value} {rs:List (List Int)}
theorem Sts.keep (h:Sts w B ks v rs) (hk:∀ p:Addr,p.block < B->w'.cell? p=w.cell? p):Sts w' B ks v rs:=by
 obtain ⟨A,c,e,h1,h2,h3⟩:=h
 refine ⟨A,c,e,h1,h2,fun hn=>?_⟩
 obtain ⟨b,off,e2,hb,hc⟩:=h3 hn
 exact ⟨b,off,e2,hb,fun i r hr j k z h4 h5=>(hk ⟨b,_,none⟩ hb).trans (hc i r hr j k z h4 h5)⟩
theorem Sts.below (h:Sts w B ks v rs) (hb:Below B w w'):Sts w' B ks v rs:=h.keep fun _ hp=>hb.cell hp
theorem Sts.len (h:Sts w B ks v rs):∃ A c,v = .slice A rs.length c/\rs.length<=c/\c<=9223372036854775807:=by
 obtain ⟨A,c,e,h1,h2,_⟩:=h
 exact ⟨A,c,e,h1,h2⟩
theorem Sts.at_ (h:Sts w B ks v rs) {i:Nat} {r:List Int} (hr:rs[i]? = some r):∃ b off c,v = .slice (some ⟨b,off,none⟩) rs.length c/\rs.length<=c/\c<=9223372036854775807/\b < B ∧
  ∀ (j:Nat) (k:IntKind) (z:Int),ks[j]? = some k->r[j]? = some z->w.cell? ⟨b,off+(i * ks.length+j),none⟩=some (Value.int k z):=by
 obtain ⟨A,c,rfl,h1,h2,h3⟩:=h
 obtain ⟨b,off,rfl,hb,hc⟩:=h3 (by have:=(List.getElem?_eq_some_iff.1 hr).1;omega)
 exact ⟨b,off,c,rfl,h1,h2,hb,hc i r hr⟩
end
section
variable {H:Type} {enc:TypeId × Value->H} {P:Program} {w:World} {base:Nat} {spare:Nat->Bool} {held:Bool}
end
end Go.Mtl
