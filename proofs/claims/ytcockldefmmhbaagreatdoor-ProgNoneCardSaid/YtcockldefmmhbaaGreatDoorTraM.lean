import Derived.Test.YtcockldefmmhbaaGreatDoorRows
set_option linter.unusedVariables false
namespace TraM
abbrev Step:=Int × Bool × Int × Int
def find (s:Int) (r:Bool) (k:Int):List Step->Nat->Option (Nat × Int)
 | [],_=>none
 | x :: l,i=>if s=x.1/\r=x.2.1/\k=x.2.2.1 then some (i,x.2.2.2) else find s r k l (i+1)
def p0:List Step:=[]
def p1:List Step:=p0 ++ [(1,false,1,1)]
def p2:List Step:=p1 ++ [(1,true,2,2)]
def p3:List Step:=p2 ++ [(2,false,1,2)]
def p4:List Step:=p3 ++ [(2,true,2,2)]
def p5:List Step:=p4 ++ [(2,false,3,3)]
def p6:List Step:=p5 ++ [(2,false,4,4)]
def p7:List Step:=p6 ++ [(3,false,3,3)]
def p8:List Step:=p7 ++ [(3,true,3,3)]
def p9:List Step:=p8 ++ [(3,false,4,4)]
def p10:List Step:=p9 ++ [(3,true,4,5)]
def p11:List Step:=p10 ++ [(4,false,3,4)]
def p12:List Step:=p11 ++ [(4,true,3,4)]
def p13:List Step:=p12 ++ [(4,false,4,4)]
def p14:List Step:=p13 ++ [(4,true,4,6)]
def p15:List Step:=p14 ++ [(5,false,3,5)]
def p16:List Step:=p15 ++ [(5,true,3,5)]
def p17:List Step:=p16 ++ [(5,false,4,6)]
def p18:List Step:=p17 ++ [(5,true,4,5)]
def p19:List Step:=p18 ++ [(6,false,3,6)]
def p20:List Step:=p19 ++ [(6,true,3,6)]
def p21:List Step:=p20 ++ [(6,false,4,6)]
def p22:List Step:=p21 ++ [(6,true,4,6)]
def stN (s:Int) (r:Bool) (k:Int):Int:=((find s r k p22 0).map (·.2)).getD 0
def stB (s:Int) (r:Bool) (k:Int):Bool:=(find s r k p22 0).isSome
def kindN (f:Nat):Nat:=if f &&& 23=2 then 1 else if f &&& 23=18 then 2 else if f &&& 23=16 then 3 else if f &&& 23=17 then 4 else if f &&& 23=4 then 5 else if f &&& 23=20 then 5 else 0
def nxN (s:Int) (r:Bool) (k:Int):Int:=if k=5/\1<=s/\s<=7 then 7 else stN s r k
def nxB (s:Int) (r:Bool) (k:Int):Bool:=if k=5/\1<=s/\s<=7 then true else stB s r k
def nextN (s:Int) (r:Bool) (f:Nat):Int:=nxN s r (kindN f)
def nextB (s:Int) (r:Bool) (f:Nat):Bool:=nxB s r (kindN f)
def key (x:Step):Int × Bool × Int:=(x.1,x.2.1,x.2.2.1)
theorem find_perm (s:Int) (r:Bool) (k:Int) {l m:List Step} (h:l.Perm m):(l.map key).Nodup->∀ i j,(find s r k l i).map (·.2)=(find s r k m j).map (·.2):=by
 induction h with
 | nil=>intro _ i j;rfl
 | cons x _ ih =>
  intro hn i j
  rw [List.map_cons,List.nodup_cons] at hn
  simp only [find]
  split
  ·rfl
  ·exact ih hn.2 _ _
 | swap x y l =>
  intro hn i j
  simp only [List.map_cons,List.nodup_cons,List.mem_cons,not_or] at hn
  simp only [find]
  by_cases hx:s=x.1/\r=x.2.1/\k=x.2.2.1
  ·by_cases hy:s=y.1/\r=y.2.1/\k=y.2.2.1
   ·exact absurd (by unfold key;rw [← hx.1,← hx.2.1,← hx.2.2,← hy.1,← hy.2.1,← hy.2.2]) hn.1.1
   ·rw [if_pos hx,if_neg hy]
    split <;> rfl
  ·rw [if_neg hx]
   by_cases hy:s=y.1/\r=y.2.1/\k=y.2.2.1
   ·rw [if_pos hy,if_neg hx,if_pos hy];rfl
   ·rw [if_neg hy,if_neg hy,if_neg hx]
    have hs:∀ (l:List Step) (i j:Nat),(find s r k l i).map (·.2)=(find s r k l j).map (·.2):=by
     intro l
     induction l with
     | nil=>intro i j;rfl
     | cons z l ih =>
      intro i j
      simp only [find]
      split
      ·rfl
      ·exact ih _ _
    exact hs l _ _
 | trans h1 _ ih1 ih2 =>
  intro hn i j
  exact (ih1 hn i 0).trans (ih2 ((h1.map key).nodup_iff.1 hn) 0 j)
theorem p_keys:(p22.map key).Nodup:=by decide +kernel
theorem find_none {s:Int} {r:Bool} {k:Int} (h:s < 1\/6 < s):∀ (l:List Step) (i:Nat),(∀ x ∈ l,1<=x.1/\x.1<=6)->find s r k l i=none
 | [],_,_=>rfl
 | x :: l,i,ha=>by
  have hx:=ha x (by simp)
  rw [find,if_neg (by omega)]
  exact find_none h l (i+1) (fun y hy=>ha y (by simp [hy]))
def openB (f:Nat):Bool:=kindN f == 1
def openN (f:Nat):Int:=if openB f=true then 1 else 0
end TraM
