import Derived.Test.YtcockldefmmhbaaGreatDoorJ10
import Derived.Lib.SmallJoins
import Derived.ChangeSame
import Derived.OpenShut
import Derived.Deep.Slices
import Derived.WalkKit
import Derived.ProofKit
import Derived.Below
import Derived.Lib.Hide
set_option linter.unusedVariables false
namespace Go.Mtl
open Go.ChangeShapes Go.WideShapes Go.RowKit Go.Deep
open Go.RulM (R)
def cellsR (r:R):List Value:=[.bool r.acc,.int .u8 (r.pr:Int),.int .u32 (r.sa:Int),.int .i64 r.sb,.int .u32 (r.da:Int),.int .i64 r.db,.int .u16 (r.sl:Int),.int .u16 (r.sh:Int),.int .u16 (r.dl:Int),.int .u16 (r.dh:Int)]
theorem cellsR_len (r:R):(cellsR r).length=10:=rfl
def cellsRs:List R->List Value
 | []=>[]
 | r :: rs=>cellsR r ++ cellsRs rs
theorem cellsRs_len:∀ rs:List R,(cellsRs rs).length=rs.length * 10:=by
 intro rs
 induction rs with
 | nil=>rfl
 | cons r rs ih=>simp [cellsRs,cellsR_len,ih];omega
theorem cellsRs_append:∀ xs ys:List R,cellsRs (xs ++ ys)=cellsRs xs ++ cellsRs ys:=by
 intro xs ys
 induction xs with
 | nil=>rfl
 | cons r xs ih=>simp [cellsRs,ih]
theorem cellsRs_at:∀ (rs:List R) (i j:Nat) (r:R),rs[i]? = some r->j < 10->(cellsRs rs)[i * 10+j]? = (cellsR r)[j]?:=by
 intro rs
 induction rs with
 | nil=>intro i j r h;simp at h
 | cons q rs ih =>
  intro i j r h hj
  cases i with
  | zero =>
   simp at h;subst h
   show (cellsR q ++ cellsRs rs)[0 * 10+j]? = _
   rw [List.getElem?_append_left (by rw [cellsR_len];omega)]
   congr 1;omega
  | succ i =>
   show (cellsR q ++ cellsRs rs)[(i+1) * 10+j]? = _
   rw [List.getElem?_append_right (by rw [cellsR_len];omega),cellsR_len,show (i+1) * 10+j - 10=i * 10+j by omega]
   exact ih i j r (by simpa using h) hj
section
variable {H:Type} {enc:TypeId × Value->H} {P:Program} {w:World} {base:Nat} {spare:Nat->Bool} {held:Bool}
def Rds (w:World) (B:Nat) (v:Value) (rs:List R):Prop :=
 ∃ A cap,v = .slice A rs.length cap/\rs.length<=cap/\cap<=maxLen/\(0 < rs.length->∃ b off,A=some ⟨b,off,none⟩/\b < B/\∀ j u,(cellsRs rs)[j]? = some u->w.cell? ⟨b,off+j,none⟩=some u)
theorem add_plain' (b off j:Nat):Addr.add ⟨b,off,none⟩ j=⟨b,off+j,none⟩:=by unfold Addr.add;split <;> simp_all
theorem Rds.keep {w w':World} {B:Nat} {v:Value} {rs:List R} (h:Rds w B v rs) (hk:∀ p:Addr,p.block < B->w'.cell? p=w.cell? p):Rds w' B v rs:=by
 obtain ⟨A,cap,h1,h2,h3,h4⟩:=h
 refine ⟨A,cap,h1,h2,h3,fun hn=>?_⟩
 obtain ⟨b,off,e,hb,hc⟩:=h4 hn
 exact ⟨b,off,e,hb,fun j u hu=>(hk _ hb).trans (hc j u hu)⟩
theorem Rds.mono {w:World} {B B':Nat} {v:Value} {rs:List R} (h:Rds w B v rs) (hB:B<=B'):Rds w B' v rs:=by
 obtain ⟨A,cap,h1,h2,h3,h4⟩:=h
 refine ⟨A,cap,h1,h2,h3,fun hn=>?_⟩
 obtain ⟨b,off,e,hb,hc⟩:=h4 hn
 exact ⟨b,off,e,by omega,hc⟩
theorem Rds.below {w w':World} {v:Value} {rs:List R} (h:Rds w w.heap.size v rs) (hb:Below w.heap.size w w'):Rds w' w'.heap.size v rs :=
 (h.keep fun _ hp=>hb.cell hp).mono hb.size
theorem Rds.nil (w:World) (B:Nat):Rds w B (.slice none 0 0) []:=⟨none,0,rfl,Nat.le_refl _,Nat.zero_le _,fun h=>absurd h (by simp)⟩
theorem Rds.len {w:World} {B:Nat} {v:Value} {rs:List R} (h:Rds w B v rs):∃ A c,v = .slice A rs.length c/\rs.length<=c/\c<=maxLen:=by
 obtain ⟨A,cap,h1,h2,h3,_⟩:=h
 exact ⟨A,cap,h1,h2,h3⟩
theorem Rds.at_ {w:World} {B:Nat} {v:Value} {rs:List R} (h:Rds w B v rs) {k:Nat} {r:R} (hk:rs[k]? = some r) :
  ∃ b off cap,v = .slice (some ⟨b,off,none⟩) rs.length cap/\b < B/\∀ j u,(cellsR r)[j]? = some u->w.cell? ⟨b,off+(k * 10+j),none⟩=some u:=by
 obtain ⟨A,cap,h1,h2,h3,h4⟩:=h
 have hlt:=(List.getElem?_eq_some_iff.1 hk).1
 obtain ⟨b,off,rfl,hb,hc⟩:=h4 (by omega)
 refine ⟨b,off,cap,h1,hb,fun j u hu=>hc _ _ ?_⟩
 have hj:j < 10:=by have:=(List.getElem?_eq_some_iff.1 hu).1;rwa [cellsR_len] at this
 rw [cellsRs_at rs k j r hk hj,hu]
theorem take_cells (rs:List R) (m j:Nat) (u:Value) (h:(cellsRs (rs.take m))[j]? = some u):(cellsRs rs)[j]? = some u:=by
 have e:cellsRs rs=cellsRs (rs.take m) ++ cellsRs (rs.drop m):=by rw [← cellsRs_append,List.take_append_drop]
 rw [e,List.getElem?_append_left (List.getElem?_eq_some_iff.1 h).1,h]
theorem Rds.front {w:World} {B:Nat} {A:Option Addr} {cap n:Nat} {rs:List R} (h:Rds w B (.slice A n cap) rs) (m:Nat) (hm:m<=rs.length):Rds w B (.slice A m cap) (rs.take m):=by
 obtain ⟨A',cap',h1,h2,h3,h4⟩:=h
 injection h1 with e1 e2 e3
 subst e1 e3
 have hl:(rs.take m).length=m:=by rw [List.length_take];omega
 refine ⟨A,cap,by rw [hl],by omega,h3,fun hn=>?_⟩
 obtain ⟨b,off,e,hb,hc⟩:=h4 (by omega)
 exact ⟨b,off,e,hb,fun j u hu=>hc j u (take_cells rs m j u hu)⟩
theorem Rds.of_own {w:World} {base0 T:Nat} {v:Value} {rs:List R} (h:w.ownsRow base0 T 10 v rs.length (cellsRs rs)):Rds w w.heap.size v rs:=by
 rcases h.2 with ⟨h1,h2⟩ | ⟨g,cap,cur,h1,h2,h3,h4,h5,h6,h7⟩
 ·exact ⟨none,0,by rw [h1,h2],by omega,Nat.zero_le _,fun hn=>by omega⟩
 ·refine ⟨_,cap,h1,h4,h5,fun hn=>⟨g,0,rfl,(Array.getElem?_eq_some_iff.1 h3).1,fun j u hu=>?_⟩⟩
  have hj:=(List.getElem?_eq_some_iff.1 hu).1
  rw [cell_of_row w g (0+j) cur T (0,0) h3,Nat.zero_add]
  have e:cur.toList.take (rs.length * 10)=cellsRs rs:=h7
  rw [← e,List.getElem?_take] at hu
  split at hu
  ·simpa using hu
  ·cases hu
end
end Go.Mtl
