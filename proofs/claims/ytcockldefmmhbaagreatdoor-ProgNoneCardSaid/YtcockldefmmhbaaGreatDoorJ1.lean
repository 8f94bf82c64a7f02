/- Several texts of this proof in one file, each in its own namespace. -/
import Derived.Lib.ItoaNum
import Derived.Lib.ParseIntBCases
import Derived.Lib.SplitLaws
import Derived.Lib.Split
import Derived.Lib.IndexMore
import Derived.Lib.IndexBytes
set_option linter.unusedVariables false
set_option linter.unusedSimpArgs false
namespace Go.AdrM
open Go.Lib
def dval:Nat->List UInt8->Nat
 | a,[]=>a
 | a,c :: r=>dval (10 * a+(c.toNat - 48)) r
def isDig (c:UInt8):Bool:=48<=c.toNat && c.toNat<=57
theorem dval_append (l r:List UInt8):∀ a,dval a (l ++ r)=dval (dval a l) r:=by
 induction l with
 | nil=>intro a;rfl
 | cons c l ih=>intro a;exact ih _
theorem dig_toNat (u:Nat) (h:u < 10):(UInt8.ofNat (48+u)).toNat=48+u:=by
 rw [UInt8.toNat_ofNat'];omega
theorem dig_isDig (u:Nat) (h:u < 10):isDig (UInt8.ofNat (48+u))=true:=by
 unfold isDig;rw [dig_toNat u h,Bool.and_eq_true,decide_eq_true_iff,decide_eq_true_iff];omega
theorem decDigits_val:∀ n,dval 0 (decDigits n)=n:=by
 intro n
 induction n using Nat.strongRecOn with
 | ind n ih =>
  by_cases h:n < 10
  ·rw [decDigits,dif_pos h]
   show 10 * 0+((UInt8.ofNat (48+n)).toNat - 48)=n
   rw [dig_toNat n h];omega
  ·rw [decDigits,dif_neg h,dval_append,ih (n / 10) (by omega)]
   show 10 * (n / 10)+((UInt8.ofNat (48+n % 10)).toNat - 48)=n
   rw [dig_toNat (n % 10) (by omega)];omega
theorem decDigits_dig:∀ n,∀ c ∈ decDigits n,isDig c=true:=by
 intro n
 induction n using Nat.strongRecOn with
 | ind n ih =>
  by_cases h:n < 10
  ·rw [decDigits,dif_pos h]
   intro c hc
   rw [List.mem_singleton.1 hc]
   exact dig_isDig n h
  ·rw [decDigits,dif_neg h]
   intro c hc
   rcases List.mem_append.1 hc with hc | hc
   ·exact ih (n / 10) (by omega) c hc
   ·rw [List.mem_singleton.1 hc]
    exact dig_isDig _ (by omega)
theorem decDigits_ne (n:Nat):decDigits n≠[]:=by
 rw [decDigits];split <;> simp
theorem decDigits_len_le:∀ (k n:Nat),n < 10 ^ (k+1)->(decDigits n).length<=k+1:=by
 intro k
 induction k with
 | zero=>intro n h;rw [decDigits,dif_pos (by omega)];simp
 | succ k ih =>
  intro n h
  rw [decDigits]
  split
  ·simp
  ·rename_i h10
   have:=ih (n / 10) (by rw [Nat.pow_succ] at h;omega)
   simp;omega
def numS (l:List UInt8):Option Nat:=if l.all isDig=true/\decDigits (dval 0 l)=l then some (dval 0 l) else none
theorem numS_some {l:List UInt8} {n:Nat}:numS l=some n ↔ l=decDigits n:=by
 unfold numS
 constructor
 ·intro h
  split at h
  ·rename_i hh;cases h;exact hh.2.symm
  ·cases h
 ·rintro rfl
  rw [if_pos ⟨by rw [List.all_eq_true];exact decDigits_dig n,by rw [decDigits_val]⟩,decDigits_val]
theorem numS_dec (n:Nat):numS (decDigits n)=some n:=numS_some.2 rfl
def byteS (l:List UInt8):Option Nat :=
 match numS l with
 | some n=>if n<=255 then some n else none
 | none=>none
theorem byteS_some {l:List UInt8} {n:Nat}:byteS l=some n ↔ l=decDigits n/\n<=255:=by
 unfold byteS
 constructor
 ·intro h
  split at h
  ·rename_i m hm
   split at h
   ·cases h;exact ⟨numS_some.1 hm,by assumption⟩
   ·cases h
  ·cases h
 ·rintro ⟨rfl,h⟩
  rw [numS_dec];simp [h]
theorem byteS_dec {n:Nat} (h:n<=255):byteS (decDigits n)=some n:=byteS_some.2 ⟨rfl,h⟩
theorem byteS_le {l:List UInt8} {n:Nat} (h:byteS l=some n):n<=255:=(byteS_some.1 h).2
theorem parse_dec_fin:∀ n:Fin 256,parseUintB 8 (decDigits n.val) = .ok n.val:=by decide +kernel
theorem parse_dec {n:Nat} (h:n<=255):parseUintB 8 (decDigits n) = .ok n:=parse_dec_fin ⟨n,by omega⟩
theorem byteS_of_parse_ok {l:List UInt8} {u:Nat} (h:parseUintB 8 l = .ok u):byteS l=if decDigits u=l then some u else none:=by
 have hu:u<=255:=by have:=parseUintB_le h;omega
 split
 ·rename_i e;subst e;exact byteS_dec hu
 ·rename_i e
  cases hb:byteS l with
  | none=>rfl
  | some n =>
   obtain ⟨e1,e2⟩:=byteS_some.1 hb
   subst e1
   rw [parse_dec e2] at h
   cases h
   exact absurd rfl e
theorem byteS_of_parse_not {l:List UInt8} (h:∀ u,parseUintB 8 l ≠ .ok u):byteS l=none:=by
 cases hb:byteS l with
 | none=>rfl
 | some n =>
  obtain ⟨e1,e2⟩:=byteS_some.1 hb
  subst e1
  exact absurd (parse_dec e2) (h n)
def pieces (c:UInt8):List UInt8->List (List UInt8)
 | []=>[[]]
 | b :: l=>if b=c then [] :: pieces c l else
  match pieces c l with
  | p :: ps=>(b :: p) :: ps
  | []=>[[b]]
theorem pieces_ne (c:UInt8) (l:List UInt8):pieces c l≠[]:=by
 cases l with
 | nil=>simp [pieces]
 | cons b l =>
  unfold pieces
  split
  ·simp
  ·split <;> simp
theorem pieces_hit (c:UInt8):∀ (p r:List UInt8),c ∉ p->pieces c (p ++ c :: r)=p :: pieces c r:=by
 intro p
 induction p with
 | nil=>intro r _;simp [pieces]
 | cons b p ih =>
  intro r h
  have hb:b≠c:=fun e=>h (by simp [e])
  have hp:c ∉ p:=fun e=>h (by simp [e])
  show (if b=c then _ else _)=_
  rw [if_neg hb]
  show (match pieces c (p ++ c :: r) with | p :: ps=>(b :: p) :: ps | []=>[[b]])=_
  rw [ih r hp]
theorem pieces_miss (c:UInt8):∀ p:List UInt8,c ∉ p->pieces c p=[p]:=by
 intro p
 induction p with
 | nil=>intro _;rfl
 | cons b p ih =>
  intro h
  have hb:b≠c:=fun e=>h (by simp [e])
  have hp:c ∉ p:=fun e=>h (by simp [e])
  show (if b=c then _ else _)=_
  rw [if_neg hb,ih hp]
def join (c:UInt8):List (List UInt8)->List UInt8
 | []=>[]
 | [p]=>p
 | p :: ps=>p ++ c :: join c ps
theorem join_pieces (c:UInt8):∀ l,join c (pieces c l)=l:=by
 intro l
 induction l with
 | nil=>rfl
 | cons b l ih =>
  unfold pieces
  split
  ·rename_i e
   subst e
   cases hp:pieces b l with
   | nil=>exact absurd hp (pieces_ne b l)
   | cons p ps=>rw [hp] at ih;simp [join,ih]
  ·split
   ·rename_i p ps hp
    rw [hp] at ih
    cases ps with
    | nil=>simpa [join] using ih
    | cons q qs=>simpa [join] using ih
   ·rename_i hp;exact absurd hp (pieces_ne c l)
theorem pieces_count (c:UInt8):∀ l,(pieces c l).length=l.count c+1:=by
 intro l
 induction l with
 | nil=>rfl
 | cons b l ih =>
  unfold pieces
  split
  ·rename_i e;subst e;simp [ih]
  ·rename_i e
   split
   ·rename_i p ps hp
    rw [hp] at ih
    rw [List.count_cons_of_ne (by simpa using e)]
    simpa using ih
   ·rename_i hp;exact absurd hp (pieces_ne c l)
def parseS (l:List UInt8):Option Nat :=
 match pieces 46 l with
 | [p,q,r,s]=>match byteS p,byteS q,byteS r,byteS s with
  | some a,some b,some c,some d=>some (((a * 256+b) * 256+c) * 256+d)
  | _,_,_,_=>none
 | _=>none
def b3 (a:Nat):Nat:=a / 16777216
def b2 (a:Nat):Nat:=a / 65536 % 256
def b1 (a:Nat):Nat:=a / 256 % 256
def b0 (a:Nat):Nat:=a % 256
def printS (a:Nat):List UInt8:=decDigits (b3 a) ++ (46 :: (decDigits (b2 a) ++ (46 :: (decDigits (b1 a) ++ (46 :: decDigits (b0 a))))))
theorem no_dot (n:Nat) (c:UInt8) (h:isDig c=false):c ∉ decDigits n:=fun hc=>by
 rw [decDigits_dig n c hc] at h;cases h
theorem pieces_print (a:Nat):pieces 46 (printS a)=[decDigits (b3 a),decDigits (b2 a),decDigits (b1 a),decDigits (b0 a)]:=by
 unfold printS
 rw [pieces_hit _ _ _ (no_dot _ _ (by decide)),pieces_hit _ _ _ (no_dot _ _ (by decide)),pieces_hit _ _ _ (no_dot _ _ (by decide)),pieces_miss _ _ (no_dot _ _ (by decide))]
theorem parse_print {a:Nat} (h:a < 4294967296):parseS (printS a)=some a:=by
 unfold parseS
 rw [pieces_print]
 simp only []
 rw [byteS_dec (by unfold b3;omega),byteS_dec (by unfold b2;omega),byteS_dec (by unfold b1;omega),byteS_dec (by unfold b0;omega)]
 simp only [b3,b2,b1,b0,Option.some.injEq]
 omega
theorem parseS_lt {l:List UInt8} {a:Nat} (h:parseS l=some a):a < 4294967296:=by
 unfold parseS at h
 split at h
 ·split at h
  ·rename_i h1 h2 h3 h4
   have:=byteS_le h1;have:=byteS_le h2;have:=byteS_le h3;have:=byteS_le h4
   cases h;omega
  ·cases h
 ·cases h
theorem print_parse {l:List UInt8} {a:Nat} (h:parseS l=some a):printS a=l:=by
 unfold parseS at h
 split at h
 ·rename_i p q r s hp
  split at h
  ·rename_i a1 a2 a3 a4 h1 h2 h3 h4
   obtain ⟨e1,l1⟩:=byteS_some.1 h1
   obtain ⟨e2,l2⟩:=byteS_some.1 h2
   obtain ⟨e3,l3⟩:=byteS_some.1 h3
   obtain ⟨e4,l4⟩:=byteS_some.1 h4
   cases h
   have hj:=join_pieces 46 l
   rw [hp] at hj
   rw [← hj]
   have x3:b3 (((a1 * 256+a2) * 256+a3) * 256+a4)=a1:=by unfold b3;omega
   have x2:b2 (((a1 * 256+a2) * 256+a3) * 256+a4)=a2:=by unfold b2;omega
   have x1:b1 (((a1 * 256+a2) * 256+a3) * 256+a4)=a3:=by unfold b1;omega
   have x0:b0 (((a1 * 256+a2) * 256+a3) * 256+a4)=a4:=by unfold b0;omega
   unfold printS
   rw [x3,x2,x1,x0,e1,e2,e3,e4]
   simp [join]
  ·cases h
 ·cases h
theorem print_len (a:Nat) (h:a < 4294967296):(printS a).length<=15:=by
 have h3:=decDigits_len_le 2 (b3 a) (by unfold b3;omega)
 have h2:=decDigits_len_le 2 (b2 a) (by unfold b2;omega)
 have h1:=decDigits_len_le 2 (b1 a) (by unfold b1;omega)
 have h0:=decDigits_len_le 2 (b0 a) (by unfold b0;omega)
 unfold printS;simp;omega
def validS (a:Nat) (n:Int):Bool:=decide (0<=n/\n<=32) && a % 2 ^ (32 - n.toNat) == 0
theorem validS_mk {a:Nat} {n:Int}:validS a n=true ↔ (0<=n/\n<=32)/\a % 2 ^ (32 - n.toNat)=0:=by
 unfold validS;simp
def anyL:List UInt8:=[97,110,121]
def showS (a:Nat) (n:Int):Option (List UInt8) :=
 if validS a n=true then some (if n=0 then anyL else printS a ++ (47 :: decDigits n.toNat)) else none
def hasS (a:Nat) (n:Int) (x:Nat):Bool:=validS a n && x / 2 ^ (32 - n.toNat) == a / 2 ^ (32 - n.toNat)
def netP (p r:List UInt8):Option (Nat × Nat) :=
 match parseS p,byteS r with
 | some a,some n=>if n≠0/\validS a (n:Int)=true then some (a,n) else none
 | _,_=>none
def left (l:List UInt8):List UInt8:=l.takeWhile (· != 47)
def right (l:List UInt8):List UInt8:=(l.dropWhile (· != 47)).drop 1
def netS (l:List UInt8):Option (Nat × Nat):=if l=anyL then some (0,0) else netP (left l) (right l)
theorem takeWhile_hit (p r:List UInt8) (h:(47:UInt8) ∉ p):(p ++ 47 :: r).takeWhile (· != 47)=p/\(p ++ 47 :: r).dropWhile (· != 47)=47 :: r:=by
 induction p with
 | nil=>simp
 | cons b p ih =>
  have hb:b≠47:=fun e=>h (by simp [e])
  obtain ⟨h1,h2⟩:=ih (fun e=>h (by simp [e]))
  simp [hb,h1,h2]
theorem split_at (l:List UInt8):(47:UInt8) ∉ left l/\(l=left l/\right l=[]/\(47:UInt8) ∉ l\/l=left l ++ 47 :: right l):=by
 induction l with
 | nil=>simp [left,right]
 | cons b l ih =>
  by_cases hb:b=47
  ·subst hb;simp [left,right]
  ·obtain ⟨h1,h2⟩:=ih
   have e1:left (b :: l)=b :: left l:=by simp [left,hb]
   have e2:right (b :: l)=right l:=by simp [right,hb]
   rw [e1,e2]
   refine ⟨by rw [List.mem_cons];rintro (e | e);exact hb e.symm;exact h1 e,?_⟩
   rcases h2 with ⟨h3,h4,h5⟩ | h3
   ·exact .inl ⟨by rw [← h3],h4,by rw [List.mem_cons];rintro (e | e);exact hb e.symm;exact h5 e⟩
   ·exact .inr (by rw [List.cons_append,← h3])
theorem byteS_nil:byteS []=none:=by
 cases h:byteS [] with
 | none=>rfl
 | some n=>exact absurd (byteS_some.1 h).1.symm (decDigits_ne n)
theorem netP_some {p r:List UInt8} {a n:Nat} (h:netP p r=some (a,n)):parseS p=some a/\byteS r=some n/\n≠0/\validS a (n:Int)=true:=by
 unfold netP at h
 split at h
 ·split at h
  ·rename_i h1 h2 h3;cases h;exact ⟨h1,h2,h3⟩
  ·cases h
 ·cases h
theorem print_noslash (a:Nat):(47:UInt8) ∉ printS a:=by
 have h:=fun n=>no_dot n 47 (by decide)
 unfold printS;simp [h]
theorem net_show {a:Nat} {n:Int} {t:List UInt8} (ha:a < 4294967296) (h:showS a n=some t):netS t=some (a,n.toNat):=by
 unfold showS at h
 split at h
 ·rename_i hv
  have hv':=validS_mk.1 hv
  cases h
  by_cases h0:n=0
  ·subst h0
   have:a=0:=by have:=hv'.2;simp at this;omega
   subst this
   simp [netS]
  ·rw [if_neg h0]
   unfold netS
   rw [if_neg (by
    intro e
    have hm:(47:UInt8) ∈ anyL:=by rw [← e];simp
    simp [anyL] at hm)]
   obtain ⟨h1,h2⟩:=takeWhile_hit (printS a) (decDigits n.toNat) (print_noslash a)
   have e1:left (printS a ++ 47 :: decDigits n.toNat)=printS a:=h1
   have e2:right (printS a ++ 47 :: decDigits n.toNat)=decDigits n.toNat:=by unfold right;rw [h2];rfl
   rw [e1,e2]
   unfold netP
   rw [parse_print ha,byteS_dec (by omega)]
   have hn:((n.toNat:Nat):Int)=n:=by omega
   simp only [hn]
   rw [if_pos ⟨by omega,hv⟩]
 ·cases h
theorem show_net {l:List UInt8} {a n:Nat} (h:netS l=some (a,n)):showS a (n:Int)=some l/\a < 4294967296/\n<=32:=by
 unfold netS at h
 split at h
 ·rename_i e
  cases h;subst e
  exact ⟨by decide,by omega,by omega⟩
 ·obtain ⟨h1,h2,h3,h4⟩:=netP_some h
  have hv:=validS_mk.1 h4
  refine ⟨?_,parseS_lt h1,by omega⟩
  unfold showS
  rw [if_pos h4,if_neg (by omega)]
  rcases (split_at l).2 with ⟨_,hr,_⟩ | hl
  ·rw [hr,byteS_nil] at h2;cases h2
  ·rw [print_parse h1]
   have:=(byteS_some.1 h2).1
   rw [show ((n:Int)).toNat=n by simp,← this,← hl]
end Go.AdrM
set_option linter.unusedVariables false
set_option linter.unusedSimpArgs false
namespace Go.AdrM
open Go.Lib
theorem index_hit (c:UInt8):∀ (p r:List UInt8),c ∉ p->index (p ++ c :: r) [c]=p.length:=by
 intro p
 induction p with
 | nil=>intro r _;rw [index_one];simp [indexByte]
 | cons b p ih =>
  intro r h
  have hb:b≠c:=fun e=>h (by simp [e])
  have:=ih r (fun e=>h (by simp [e]))
  rw [index_one] at this ⊢
  rw [List.cons_append]
  unfold indexByte
  rw [if_neg (by simpa using hb),this,if_neg (by simp)]
  simp
theorem index_miss (c:UInt8):∀ (p:List UInt8),c ∉ p->index p [c]=-1:=by
 intro p
 induction p with
 | nil=>intro _;rfl
 | cons b p ih =>
  intro h
  have hb:b≠c:=fun e=>h (by simp [e])
  have:=ih (fun e=>h (by simp [e]))
  rw [index_one] at this ⊢
  show (if (b == c)=true then _ else _)=_
  rw [if_neg (by simpa using hb),this]
  rfl
theorem part_at (c:UInt8):∀ (l:List UInt8),c ∈ l->∃ p r,l=p ++ c :: r/\c ∉ p:=by
 intro l
 induction l with
 | nil=>intro h;cases h
 | cons b l ih =>
  intro h
  by_cases hb:b=c
  ·subst hb;exact ⟨[],l,rfl,by simp⟩
  ·obtain ⟨p,r,e,hp⟩:=ih (by rcases List.mem_cons.1 h with e | e;exact absurd e.symm hb;exact e)
   exact ⟨b :: p,r,by rw [e];rfl,by rw [List.mem_cons];rintro (e | e);exact hb e.symm;exact hp e⟩
theorem splitK_pieces (c:UInt8):∀ (k:Nat) (l:List UInt8),l.count c=k->splitK [c] 0 k l=pieces c l:=by
 intro k
 induction k with
 | zero =>
  intro l h
  rw [pieces_miss c l (List.count_eq_zero.1 h)]
  rfl
 | succ k ih =>
  intro l h
  obtain ⟨p,r,rfl,hp⟩:=part_at c l (List.count_pos_iff.1 (by omega))
  have hc:r.count c=k:=by
   rw [List.count_append,List.count_eq_zero.2 hp,List.count_cons_self] at h
   omega
  rw [pieces_hit c p r hp,← ih r hc]
  conv=>lhs;unfold splitK
  rw [index_hit c p r hp,if_neg (by simp)]
  simp
theorem splitB_pieces (s sep:ByteArray) (c:UInt8) (hsep:sep.data.toList=[c]):(splitB sep 0 (countB s sep) s).map (·.data.toList)=pieces c s.data.toList:=by
 rw [splitB_data,hsep]
 have:countB s sep=s.data.toList.count c:=by
  unfold countB
  rw [hsep,count_one]
 rw [this]
 exact splitK_pieces c _ _ rfl
theorem countB_pieces (s sep:ByteArray) (c:UInt8) (hsep:sep.data.toList=[c]):countB s sep+1=(pieces c s.data.toList).length:=by
 rw [pieces_count]
 unfold countB
 rw [hsep,count_one]
theorem cut_left (l:List UInt8):(cut l [47]).1=left l/\(cut l [47]).2.1=right l:=by
 rcases (split_at l).2 with ⟨h1,h2,h3⟩ | h
 ·unfold cut
  rw [index_miss 47 l h3,if_neg (by omega)]
  exact ⟨h1,h2.symm⟩
 ·have hn:=(split_at l).1
  have hi:=index_hit 47 (left l) (right l) hn
  rw [← h] at hi
  unfold cut
  rw [hi,if_pos (by omega)]
  refine ⟨?_,?_⟩
  ·show l.take _=_
   conv=>lhs;arg 2;rw [h]
   simp
  ·show l.drop _=_
   conv=>lhs;arg 2;rw [h]
   simp
theorem pieces_len (c:UInt8):∀ (l:List UInt8),∀ p ∈ pieces c l,p.length<=l.length:=by
 intro l
 induction l with
 | nil=>intro p hp;simp [pieces] at hp;simp [hp]
 | cons b l ih =>
  intro p hp
  unfold pieces at hp
  split at hp
  ·rcases List.mem_cons.1 hp with rfl | hp
   ·simp
   ·have:=ih p hp;simp;omega
  ·split at hp
   ·rename_i q qs hq
    rcases List.mem_cons.1 hp with rfl | hp
    ·have:=ih q (by rw [hq];simp);simp;omega
    ·have:=ih p (by rw [hq];simp [hp]);simp;omega
   ·rename_i hq;exact absurd hq (pieces_ne c l)
def fold:Nat->List (List UInt8)->Option Nat
 | a,[]=>some a
 | a,p :: ps=>match byteS p with
  | some n=>fold (a * 256+n) ps
  | none=>none
theorem fold_four (p q r s:List UInt8):fold 0 [p,q,r,s]=(match byteS p,byteS q,byteS r,byteS s with
  | some a,some b,some c,some d=>some (((a * 256+b) * 256+c) * 256+d)
  | _,_,_,_=>none):=by
 simp only [fold]
 cases byteS p <;> cases byteS q <;> cases byteS r <;> cases byteS s <;> simp
theorem parseS_fold (l:List UInt8):parseS l=if (pieces 46 l).length=4 then fold 0 (pieces 46 l) else none:=by
 unfold parseS
 generalize pieces 46 l=L
 match L with
 | []=>rfl
 | [_]=>rfl
 | [_,_]=>rfl
 | [_,_,_]=>rfl
 | [p,q,r,s]=>rw [if_pos (by simp),fold_four];try rfl
 | _ :: _ :: _ :: _ :: _ :: _=>rw [if_neg (by simp)]
theorem fold_step {ps:List (List UInt8)} {k a n:Nat} {p:List UInt8} (hk:ps[k]? = some p) (hn:byteS p=some n):fold a (ps.drop k)=fold (a * 256+n) (ps.drop (k+1)):=by
 obtain ⟨hlt,he⟩:=List.getElem?_eq_some_iff.1 hk
 rw [List.drop_eq_getElem_cons hlt,he]
 conv=>lhs;unfold fold
 rw [hn]
theorem fold_stop {ps:List (List UInt8)} {k a:Nat} {p:List UInt8} (hk:ps[k]? = some p) (hn:byteS p=none):fold a (ps.drop k)=none:=by
 obtain ⟨hlt,he⟩:=List.getElem?_eq_some_iff.1 hk
 rw [List.drop_eq_getElem_cons hlt,he]
 unfold fold
 rw [hn]
theorem fold_end {ps:List (List UInt8)} {k a:Nat} (hk:ps.length<=k):fold a (ps.drop k)=some a:=by
 rw [List.drop_eq_nil_of_le hk];rfl
theorem or_low (a n:Nat) (ha:a < 16777216) (hn:n < 256):(a * 256 % 4294967296) ||| n=a * 256+n:=by
 rw [Nat.mod_eq_of_lt (by omega)]
 have:=Nat.two_pow_add_eq_or_of_lt (i:=8) (b:=n) hn a
 rw [show (2:Nat) ^ 8=256 by decide,Nat.mul_comm] at this
 exact this.symm
end Go.AdrM
set_option linter.unusedVariables false
set_option linter.unusedSimpArgs false
namespace Go.TxtM
open Go.Lib Go.AdrM
def top:Nat:=4611686018427387904
def okN (l:List UInt8):Bool:=l.all isDig && decide (decDigits (dval 0 l)=l) && decide (dval 0 l<=top)
def valN (l:List UInt8):Nat:=if okN l=true then dval 0 l else 0
theorem okN_iff (l:List UInt8):okN l=true ↔ l.all isDig=true/\decDigits (dval 0 l)=l/\dval 0 l<=top:=by
 unfold okN;simp [Bool.and_eq_true,and_assoc]
theorem valN_no {l:List UInt8} (h:okN l=false):valN l=0:=by unfold valN;rw [h];rfl
theorem valN_yes {l:List UInt8} (h:okN l=true):valN l=dval 0 l:=by unfold valN;rw [if_pos h]
theorem okN_no {l:List UInt8} (h : ¬ (l.all isDig=true/\decDigits (dval 0 l)=l/\dval 0 l<=top)):okN l=false:=by
 cases e:okN l with
 | false=>rfl
 | true=>exact absurd ((okN_iff l).1 e) h
theorem dval_ge:∀ (r:List UInt8) (a:Nat),a<=dval a r:=by
 intro r
 induction r with
 | nil=>intro a;exact Nat.le_refl _
 | cons c r ih=>intro a;exact Nat.le_trans (by omega) (ih (10 * a+(c.toNat - 48)))
theorem dval_take (l:List UInt8) (k:Nat):dval 0 (l.take k)<=dval 0 l:=by
 conv=>rhs;rw [← List.take_append_drop k l]
 rw [dval_append]
 exact dval_ge _ _
theorem dval_snoc (l:List UInt8) (c:UInt8):dval 0 (l ++ [c])=10 * dval 0 l+(c.toNat - 48):=by rw [dval_append];rfl
theorem dval_at {l:List UInt8} {k:Nat} {c:UInt8} (h:l[k]? = some c):dval 0 (l.take (k+1))=10 * dval 0 (l.take k)+(c.toNat - 48):=by
 obtain ⟨hlt,he⟩:=(List.getElem?_eq_some_iff.1 h)
 rw [List.take_succ_eq_append_getElem hlt,he,dval_snoc]
theorem all_at {l:List UInt8} {k:Nat} {c:UInt8} (h:l[k]? = some c) (ha:(l.take k).all isDig=true) (hc:48<=c.toNat/\c.toNat<=57):(l.take (k+1)).all isDig=true:=by
 obtain ⟨hlt,he⟩:=(List.getElem?_eq_some_iff.1 h)
 rw [List.take_succ_eq_append_getElem hlt,he,List.all_append,ha]
 simp [isDig,hc.1,hc.2]
theorem no_digit {l:List UInt8} {k:Nat} {c:UInt8} (h:l[k]? = some c) (hc : ¬ (48<=c.toNat/\c.toNat<=57)):okN l=false:=by
 refine okN_no fun ⟨h1,_⟩=>hc ?_
 have:=(List.all_eq_true.1 h1) c (List.mem_of_getElem? h)
 unfold isDig at this
 rwa [Bool.and_eq_true,decide_eq_true_iff,decide_eq_true_iff] at this
theorem no_over {l:List UInt8} {k:Nat} (h:top < dval 0 (l.take k)):okN l=false:=by
 refine okN_no fun ⟨_,_,h1⟩=>?_
 have:=dval_take l k
 omega
theorem dec_head:∀ n,1<=n->∃ c r,decDigits n=c :: r/\c≠48:=by
 intro n
 induction n using Nat.strongRecOn with
 | ind n ih =>
  intro h1
  by_cases h:n < 10
  ·refine ⟨_,[],by rw [decDigits,dif_pos h],fun e=>?_⟩
   have:=congrArg UInt8.toNat e
   rw [dig_toNat n h] at this
   have h48:(48:UInt8).toNat=48:=rfl
   omega
  ·obtain ⟨c,r,e,hc⟩:=ih (n / 10) (by omega) (by omega)
   exact ⟨c,r ++ [UInt8.ofNat (48+n % 10)],by rw [decDigits,dif_neg h,e];rfl,hc⟩
theorem no_zero {l:List UInt8} (h:1 < l.length) (h0:l[0]? = some 48):okN l=false:=by
 refine okN_no fun ⟨_,h2,_⟩=>?_
 rcases Nat.eq_zero_or_pos (dval 0 l) with e | e
 ·rw [e,show decDigits 0=[48] by rw [decDigits,dif_pos (by omega)];rfl] at h2
  rw [← h2] at h;simp at h
 ·obtain ⟨c,r,e2,hc⟩:=dec_head _ e
  rw [e2] at h2
  rw [← h2] at h0
  simp at h0
  exact hc h0
theorem no_none:okN []=false:=okN_no fun ⟨_,h2,_⟩=>decDigits_ne _ h2
theorem canon:∀ (m:Nat) (l:List UInt8),l.length=m+1->l.all isDig=true->(1 < l.length->l[0]? ≠ some 48)->decDigits (dval 0 l)=l:=by
 intro m
 induction m with
 | zero =>
  intro l hl hd _
  obtain ⟨c,rfl⟩:=List.length_eq_one_iff.1 hl
  have hc:=(List.all_eq_true.1 hd) c (by simp)
  unfold isDig at hc
  rw [Bool.and_eq_true,decide_eq_true_iff,decide_eq_true_iff] at hc
  show decDigits (10 * 0+(c.toNat - 48))=[c]
  rw [decDigits,dif_pos (by omega)]
  congr 1
  apply UInt8.toNat_inj.1
  rw [dig_toNat _ (by omega)];omega
 | succ m ih =>
  intro l hl hd h0
  have hne:l≠[]:=fun e=>by subst e;simp at hl
  obtain ⟨p,c,rfl⟩:∃ p c,l=p ++ [c]:=⟨l.dropLast,l.getLast hne,(List.dropLast_concat_getLast hne).symm⟩
  have hp:p.length=m+1:=by simpa using hl
  rw [List.all_append,Bool.and_eq_true] at hd
  have hc:=(List.all_eq_true.1 hd.2) c (by simp)
  unfold isDig at hc
  rw [Bool.and_eq_true,decide_eq_true_iff,decide_eq_true_iff] at hc
  have hp0:p[0]? ≠ some 48:=fun e=>h0 (by simp;omega) (by rw [List.getElem?_append_left (by omega)];exact e)
  have hi:=ih p hp hd.1 (fun _=>hp0)
  have hpos:1<=dval 0 p:=by
   rcases Nat.eq_zero_or_pos (dval 0 p) with e | e
   ·rw [e,show decDigits 0=[48] by rw [decDigits,dif_pos (by omega)];rfl] at hi
    rw [← hi] at hp0;simp at hp0
   ·exact e
  rw [dval_snoc,decDigits,dif_neg (by omega),show (10 * dval 0 p+(c.toNat - 48)) / 10=dval 0 p by omega,hi,show (10 * dval 0 p+(c.toNat - 48)) % 10=c.toNat - 48 by omega]
  congr 2
  apply UInt8.toNat_inj.1
  rw [dig_toNat _ (by omega)];omega
theorem yes_number {l:List UInt8} (h1:1<=l.length) (hd:l.all isDig=true) (h0:1 < l.length->l[0]? ≠ some 48) (ht:dval 0 l<=top):okN l=true :=
 (okN_iff l).2 ⟨hd,canon (l.length - 1) l (by omega) hd h0,ht⟩
end Go.TxtM
