/- Several texts of this proof in one file, each in its own namespace. -/
import Derived.Test.YtcockldefmmhbaaGreatDoorJ1
import Derived.Lib.Fields
import Derived.Lib.Space
set_option linter.unusedVariables false
set_option linter.unusedSimpArgs false
namespace Go.TxtM
open Go.Lib Go.AdrM
abbrev Line:=Nat × List (List UInt8)
def okb (b:UInt8):Bool:=b == 10 || (decide (32<=b.toNat) && decide (b.toNat<=126))
def emit (n:Nat) (ws:List (List UInt8)):List Line:=if ws=[] then [] else [(n,ws)]
def close (ws:List (List UInt8)) (cur:List UInt8):List (List UInt8):=if cur=[] then ws else ws ++ [cur]
def lex:Nat->List (List UInt8)->List UInt8->Bool->List UInt8->List Line
 | n,ws,cur,_,[]=>emit n (close ws cur)
 | n,ws,cur,off,b :: l =>
  if b=10 then emit n (close ws cur) ++ lex (n+1) [] [] false l
  else if b=35 then lex n (close ws cur) [] true l
  else if b=32 then lex n (close ws cur) [] off l
  else if off=true then lex n ws cur off l
  else lex n ws (cur ++ [b]) off l
def errOf (l:List UInt8):Nat:=if 4096 < l.length then 2 else if l.all okb=true then 0 else 3
def lineOf (l:List UInt8):Nat:=if 4096 < l.length then 0 else if l.all okb=true then 0 else 1+(l.takeWhile okb).count 10
def linesOf (l:List UInt8):List Line:=if errOf l=0 then lex 1 [] [] false l else []
theorem errOf_over {l:List UInt8} (h:4096 < l.length):errOf l=2/\lineOf l=0/\linesOf l=[]:=by
 have e:errOf l=2:=by unfold errOf;rw [if_pos h]
 refine ⟨e,by unfold lineOf;rw [if_pos h],?_⟩
 unfold linesOf;rw [e];rfl
theorem errOf_bad {l:List UInt8} (h:l.length<=4096) (hb:l.all okb=false):errOf l=3/\lineOf l=1+(l.takeWhile okb).count 10/\linesOf l=[]:=by
 have e:errOf l=3:=by unfold errOf;rw [if_neg (by omega),hb];rfl
 refine ⟨e,by unfold lineOf;rw [if_neg (by omega),hb];rfl,?_⟩
 unfold linesOf;rw [e];rfl
theorem errOf_ok {l:List UInt8} (h:l.length<=4096) (hb:l.all okb=true):errOf l=0/\lineOf l=0/\linesOf l=lex 1 [] [] false l:=by
 have e:errOf l=0:=by unfold errOf;rw [if_neg (by omega),if_pos hb]
 refine ⟨e,by unfold lineOf;rw [if_neg (by omega),if_pos hb],?_⟩
 unfold linesOf;rw [if_pos e]
theorem errOf_zero {l:List UInt8} (h:errOf l=0):l.length<=4096/\l.all okb=true:=by
 by_cases h1:4096 < l.length
 ·rw [(errOf_over h1).1] at h;omega
 ·cases hb:l.all okb with
  | true=>exact ⟨by omega,rfl⟩
  | false=>rw [(errOf_bad (by omega) hb).1] at h;omega
theorem errOf_le (l:List UInt8):errOf l<=3:=by unfold errOf;split <;> (try split) <;> omega
theorem len_takeWhile_lt {l:List UInt8} (h:l.all okb=false):(l.takeWhile okb).length < l.length:=by
 induction l with
 | nil=>simp at h
 | cons b l ih =>
  rw [List.takeWhile_cons]
  split
  ·rename_i hb
   rw [List.all_cons,hb,Bool.true_and] at h
   have:=ih h
   simp;omega
  ·simp
theorem take_takeWhile (l:List UInt8):l.take (l.takeWhile okb).length=l.takeWhile okb:=by
 have h:l.takeWhile okb ++ l.dropWhile okb=l:=List.takeWhile_append_dropWhile
 refine (congrArg (List.take (l.takeWhile okb).length) h.symm).trans ?_
 exact List.take_left
def wordsL (p:List UInt8):List (List UInt8):=fields (cut p [35]).1
def linesP:Nat->List (List UInt8)->List Line
 | _,[]=>[]
 | n,p :: ps=>emit n (wordsL p) ++ linesP (n+1) ps
theorem linesP_snoc (p:List UInt8):∀ (ps:List (List UInt8)) (n:Nat),linesP n (ps ++ [p])=linesP n ps ++ emit (n+ps.length) (wordsL p):=by
 intro ps
 induction ps with
 | nil=>intro n;simp [linesP]
 | cons q ps ih =>
  intro n
  show emit n (wordsL q) ++ linesP (n+1) (ps ++ [p])=_
  rw [ih,← List.append_assoc,show n+1+ps.length=n+(q :: ps).length by simp;omega]
  rfl
theorem linesP_take {ps:List (List UInt8)} {k:Nat} {p:List UInt8} (h:ps[k]? = some p) (n:Nat):linesP n (ps.take (k+1))=linesP n (ps.take k) ++ emit (n+k) (wordsL p):=by
 obtain ⟨hlt,he⟩:=(List.getElem?_eq_some_iff.1 h)
 rw [List.take_succ_eq_append_getElem hlt,he,linesP_snoc,List.length_take,Nat.min_eq_left (by omega)]
theorem linesP_len:∀ (ps:List (List UInt8)) (n:Nat),(linesP n ps).length<=ps.length:=by
 intro ps
 induction ps with
 | nil=>intro n;exact Nat.le_refl _
 | cons p ps ih =>
  intro n
  have:=ih (n+1)
  show (emit n (wordsL p) ++ linesP (n+1) ps).length<=_
  unfold emit
  split <;> simp <;> omega
theorem fieldsGo_len:∀ (l cur:List UInt8),(fieldsGo cur l).length<=l.length+1:=by
 intro l
 induction l with
 | nil=>intro cur;unfold fieldsGo;split <;> simp
 | cons b l ih =>
  intro cur
  unfold fieldsGo
  split
  ·split
   ·have:=ih [];simp;omega
   ·have:=ih [];simp;omega
  ·have:=ih (cur ++ [b]);simp;omega
def ahead:List UInt8->List UInt8
 | []=>[]
 | b :: l=>if b=35 then [] else b :: ahead l
theorem ahead_cut (l:List UInt8):(cut l [35]).1=ahead l:=by
 by_cases h:(35:UInt8) ∈ l
 ·obtain ⟨p,r,e,hp⟩:=part_at 35 l h
  have hi:=index_hit 35 p r hp
  unfold cut
  rw [e,hi,if_pos (by omega)]
  show (p ++ 35 :: r).take _=_
  have:∀ p:List UInt8,(35:UInt8) ∉ p->ahead (p ++ 35 :: r)=p:=by
   intro p
   induction p with
   | nil=>intro _;simp [ahead]
   | cons b p ih =>
    intro hp
    have hb:b≠35:=fun e=>hp (by simp [e])
    show (if b=35 then _ else _)=_
    rw [if_neg hb]
    exact congrArg _ (ih fun e=>hp (by simp [e]))
  rw [this p hp]
  simp
 ·have hi:=index_miss 35 l h
  unfold cut
  rw [hi,if_neg (by omega)]
  show l=_
  induction l with
  | nil=>rfl
  | cons b l ih =>
   have hb:b≠35:=fun e=>h (by simp [e])
   show _=(if b=35 then _ else _)
   rw [if_neg hb]
   exact congrArg _ (ih (fun e=>h (by simp [e])) (index_miss 35 l (fun e=>h (by simp [e]))))
theorem ahead_sub (l:List UInt8):∀ b ∈ ahead l,b ∈ l:=by
 induction l with
 | nil=>intro b h;cases h
 | cons c l ih =>
  intro b h
  unfold ahead at h
  split at h
  ·cases h
  ·rcases List.mem_cons.1 h with rfl | h
   ·simp
   ·simp [ih b h]
theorem ahead_len (l:List UInt8):(ahead l).length<=l.length:=by
 induction l with
 | nil=>exact Nat.le_refl _
 | cons c l ih=>unfold ahead;split <;> simp <;> omega
theorem wordsL_len (p:List UInt8):(wordsL p).length<=p.length+1:=by
 unfold wordsL
 rw [ahead_cut]
 have:=fieldsGo_len (ahead p) []
 have:=ahead_len p
 unfold fields
 omega
theorem isSp_okb {b:UInt8} (h:okb b=true) (h10:b≠10):isSp b=decide (b=32):=by
 have:=b.toNat_lt
 unfold okb at h
 have hb:∀ n,n < 256->(UInt8.ofNat n=10\/(32<=n/\n<=126))->UInt8.ofNat n≠10->isSp (UInt8.ofNat n)=decide (UInt8.ofNat n=32):=by
  decide +kernel
 have h2:=hb b.toNat this
 rw [UInt8.ofNat_toNat] at h2
 refine h2 ?_ h10
 rcases Bool.or_eq_true _ _ ▸ h with h | h
 ·exact .inl (by simpa using h)
 ·rw [Bool.and_eq_true,decide_eq_true_iff,decide_eq_true_iff] at h;exact .inr h
def wordsOn (ws:List (List UInt8)) (cur:List UInt8) (off:Bool) (p:List UInt8):List (List UInt8):=if off=true then ws else ws ++ fieldsGo cur (ahead p)
theorem close_is (ws:List (List UInt8)) (cur:List UInt8):ws ++ fieldsGo cur []=close ws cur:=by
 unfold close fieldsGo
 cases cur <;> simp
theorem lex_pieces:∀ (l:List UInt8) (n:Nat) (ws:List (List UInt8)) (cur:List UInt8) (off:Bool),l.all okb=true->(off=true->cur=[]) →
  ∃ p ps,pieces 10 l=p :: ps/\lex n ws cur off l=emit n (wordsOn ws cur off p) ++ linesP (n+1) ps:=by
 intro l
 induction l with
 | nil =>
  intro n ws cur off _ ho
  refine ⟨[],[],rfl,?_⟩
  show emit n (close ws cur)=emit n (wordsOn ws cur off []) ++ []
  rw [List.append_nil]
  unfold wordsOn
  split
  ·rename_i h;rw [ho h];rfl
  ·show _=emit n (ws ++ fieldsGo cur []);rw [close_is]
 | cons b l ih =>
  intro n ws cur off hv ho
  rw [List.all_cons,Bool.and_eq_true] at hv
  obtain ⟨hb,hv⟩:=hv
  by_cases h10:b=10
  ·subst h10
   obtain ⟨p,ps,hp,hl⟩:=ih (n+1) [] [] false hv (fun h=>by cases h)
   refine ⟨[],p :: ps,by simp [pieces,hp],?_⟩
   show (if (10:UInt8)=10 then emit n (close ws cur) ++ lex (n+1) [] [] false l else _)=_
   rw [if_pos rfl,hl]
   have e1:wordsOn ws cur off []=close ws cur:=by
    unfold wordsOn
    split
    ·rename_i h;rw [ho h];rfl
    ·exact close_is ws cur
   have e2:wordsOn [] [] false p=wordsL p:=by unfold wordsOn wordsL;rw [ahead_cut];rfl
   rw [e1,e2]
   rfl
  ·have hpc:∀ p ps,pieces 10 l=p :: ps->pieces 10 (b :: l)=(b :: p) :: ps:=by
    intro p ps h
    show (if b=10 then _ else _)=_
    rw [if_neg h10,h]
   have hsp:=isSp_okb hb h10
   by_cases h35:b=35
   ·subst h35
    obtain ⟨p,ps,hp,hl⟩:=ih n (close ws cur) [] true hv (fun _=>rfl)
    refine ⟨35 :: p,ps,hpc p ps hp,?_⟩
    have e:lex n ws cur off (35 :: l)=lex n (close ws cur) [] true l:=by
     show (if (35:UInt8)=10 then _ else if (35:UInt8)=35 then _ else _)=_
     rw [if_neg (by decide),if_pos rfl]
    rw [e,hl]
    have e1:wordsOn ws cur off (35 :: p)=close ws cur:=by
     unfold wordsOn
     split
     ·rename_i h;rw [ho h];rfl
     ·have:ahead (35 :: p)=[]:=by simp [ahead]
      rw [this];exact close_is ws cur
    rw [e1]
    rfl
   ·by_cases h32:b=32
    ·subst h32
     obtain ⟨p,ps,hp,hl⟩:=ih n (close ws cur) [] off hv (fun _=>rfl)
     refine ⟨32 :: p,ps,hpc p ps hp,?_⟩
     have e:lex n ws cur off (32 :: l)=lex n (close ws cur) [] off l:=by
      show (if (32:UInt8)=10 then _ else if (32:UInt8)=35 then _ else if (32:UInt8)=32 then _ else _)=_
      rw [if_neg (by decide),if_neg (by decide),if_pos rfl]
     rw [e,hl]
     have e1:wordsOn ws cur off (32 :: p)=wordsOn (close ws cur) [] off p:=by
      unfold wordsOn
      cases off with
      | true=>rw [if_pos rfl,if_pos rfl,ho rfl];rfl
      | false =>
       rw [if_neg (by simp),if_neg (by simp)]
       have:ahead (32 :: p)=32 :: ahead p:=by simp [ahead]
       rw [this]
       unfold close
       cases cur with
       | nil=>rw [fieldsGo_sp _ _ hsp];simp
       | cons c cur=>rw [fieldsGo_end _ _ _ hsp (by simp)];simp
     rw [e1]
    ·have hs0:isSp b=false:=by rw [hsp];simpa using h32
     cases off with
     | true =>
      obtain ⟨p,ps,hp,hl⟩:=ih n ws cur true hv ho
      refine ⟨b :: p,ps,hpc p ps hp,?_⟩
      have e:lex n ws cur true (b :: l)=lex n ws cur true l:=by
       show (if b=10 then _ else if b=35 then _ else if b=32 then _ else if true=true then _ else _)=_
       rw [if_neg h10,if_neg h35,if_neg h32,if_pos rfl]
      rw [e,hl]
      rfl
     | false =>
      obtain ⟨p,ps,hp,hl⟩:=ih n ws (cur ++ [b]) false hv (fun h=>by cases h)
      refine ⟨b :: p,ps,hpc p ps hp,?_⟩
      have e:lex n ws cur false (b :: l)=lex n ws (cur ++ [b]) false l:=by
       show (if b=10 then _ else if b=35 then _ else if b=32 then _ else if false=true then _ else _)=_
       rw [if_neg h10,if_neg h35,if_neg h32,if_neg (by simp)]
      rw [e,hl]
      have e1:wordsOn ws cur false (b :: p)=wordsOn ws (cur ++ [b]) false p:=by
       unfold wordsOn
       rw [if_neg (by simp),if_neg (by simp)]
       have:ahead (b :: p)=b :: ahead p:=by simp [ahead,h35]
       rw [this,fieldsGo_more _ _ _ hs0]
      rw [e1]
theorem lex_is (l:List UInt8) (h:l.all okb=true):lex 1 [] [] false l=linesP 1 (pieces 10 l):=by
 obtain ⟨p,ps,hp,hl⟩:=lex_pieces l 1 [] [] false h (fun h=>by cases h)
 rw [hl,hp]
 show _=emit 1 (wordsL p) ++ linesP (1+1) ps
 have e2:wordsOn [] [] false p=wordsL p:=by unfold wordsOn wordsL;rw [ahead_cut];rfl
 rw [e2]
theorem lex_nl (n:Nat) (ws:List (List UInt8)) (cur:List UInt8) (off:Bool) (l:List UInt8):lex n ws cur off (10 :: l)=emit n (close ws cur) ++ lex (n+1) [] [] false l:=by
 show (if (10:UInt8)=10 then _ else _)=_
 rw [if_pos rfl]
theorem lex_hash (n:Nat) (ws:List (List UInt8)) (cur:List UInt8) (off:Bool) (l:List UInt8):lex n ws cur off (35 :: l)=lex n (close ws cur) [] true l:=by
 show (if (35:UInt8)=10 then _ else if (35:UInt8)=35 then _ else _)=_
 rw [if_neg (by decide),if_pos rfl]
theorem lex_sp (n:Nat) (ws:List (List UInt8)) (cur:List UInt8) (off:Bool) (l:List UInt8):lex n ws cur off (32 :: l)=lex n (close ws cur) [] off l:=by
 show (if (32:UInt8)=10 then _ else if (32:UInt8)=35 then _ else if (32:UInt8)=32 then _ else _)=_
 rw [if_neg (by decide),if_neg (by decide),if_pos rfl]
theorem lex_off (n:Nat) (ws:List (List UInt8)) (cur:List UInt8) (b:UInt8) (l:List UInt8) (h10:b≠10) (h35:b≠35) (h32:b≠32):lex n ws cur true (b :: l)=lex n ws cur true l:=by
 show (if b=10 then _ else if b=35 then _ else if b=32 then _ else if true=true then _ else _)=_
 rw [if_neg h10,if_neg h35,if_neg h32,if_pos rfl]
theorem lex_on (n:Nat) (ws:List (List UInt8)) (cur:List UInt8) (b:UInt8) (l:List UInt8) (h10:b≠10) (h35:b≠35) (h32:b≠32):lex n ws cur false (b :: l)=lex n ws (cur ++ [b]) false l:=by
 show (if b=10 then _ else if b=35 then _ else if b=32 then _ else if false=true then _ else _)=_
 rw [if_neg h10,if_neg h35,if_neg h32,if_neg (by simp)]
def Clean (w:List UInt8):Prop:=w≠[]/\∀ b ∈ w,33<=b.toNat/\b.toNat<=126/\b≠35
def Good:Nat->List Line->Prop
 | _,[]=>True
 | m,(n,ws) :: ls=>m<=n/\ws≠[]/\(∀ w ∈ ws,Clean w)/\Good (n+1) ls
theorem Good.mono:∀ {ls:List Line} {m m':Nat},Good m ls->m'<=m->Good m' ls
 | [],_,_,_,_=>trivial
 | (n,ws) :: ls,_,_,h,hm=>⟨Nat.le_trans hm h.1,h.2⟩
theorem emit_good {n m:Nat} {ws:List (List UInt8)} {ls:List Line} (h:∀ w ∈ ws,Clean w) (hm:m<=n) (hl:Good (n+1) ls):Good m (emit n ws ++ ls):=by
 unfold emit
 split
 ·exact hl.mono (by omega)
 ·rename_i hne;exact ⟨hm,hne,h,hl⟩
theorem close_clean {ws:List (List UInt8)} {cur:List UInt8} (h:∀ w ∈ ws,Clean w) (hc:cur=[]\/Clean cur):∀ w ∈ close ws cur,Clean w:=by
 unfold close
 split
 ·exact h
 ·rename_i hne
  intro w hw
  rcases List.mem_append.1 hw with hw | hw
  ·exact h w hw
  ·rw [List.mem_singleton.1 hw];exact hc.resolve_left hne
theorem clean_snoc {cur:List UInt8} {b:UInt8} (hc:cur=[]\/Clean cur) (hb:okb b=true) (h10:b≠10) (h35:b≠35) (h32:b≠32):Clean (cur ++ [b]):=by
 refine ⟨by simp,fun c h=>?_⟩
 rcases List.mem_append.1 h with h | h
 ·rcases hc with rfl | hc
  ·cases h
  ·exact hc.2 c h
 ·rw [List.mem_singleton.1 h]
  unfold okb at hb
  rcases Bool.or_eq_true _ _ ▸ hb with hb | hb
  ·exact absurd (by simpa using hb) h10
  ·rw [Bool.and_eq_true,decide_eq_true_iff,decide_eq_true_iff] at hb
   have:b.toNat≠32:=fun e=>h32 (UInt8.toNat_inj.1 e)
   exact ⟨by omega,hb.2,h35⟩
theorem lex_good:∀ (l:List UInt8) (n:Nat) (ws:List (List UInt8)) (cur:List UInt8) (off:Bool),l.all okb=true->(∀ w ∈ ws,Clean w)->(cur=[]\/Clean cur)->Good n (lex n ws cur off l):=by
 intro l
 induction l with
 | nil =>
  intro n ws cur off _ hw hc
  show Good n (emit n (close ws cur))
  have:=emit_good (n:=n) (m:=n) (ls:=[]) (close_clean hw hc) (Nat.le_refl _) trivial
  rwa [List.append_nil] at this
 | cons b l ih =>
  intro n ws cur off hv hw hc
  rw [List.all_cons,Bool.and_eq_true] at hv
  obtain ⟨hb,hv⟩:=hv
  by_cases h10:b=10
  ·subst h10;rw [lex_nl]
   exact emit_good (close_clean hw hc) (Nat.le_refl _) (ih _ _ _ _ hv (fun w h=>by cases h) (.inl rfl))
  ·by_cases h35:b=35
   ·subst h35;rw [lex_hash];exact ih _ _ _ _ hv (close_clean hw hc) (.inl rfl)
   ·by_cases h32:b=32
    ·subst h32;rw [lex_sp];exact ih _ _ _ _ hv (close_clean hw hc) (.inl rfl)
    ·cases off with
     | true=>rw [lex_off _ _ _ _ _ h10 h35 h32];exact ih _ _ _ _ hv hw hc
     | false=>rw [lex_on _ _ _ _ _ h10 h35 h32];exact ih _ _ _ _ hv hw (.inr (clean_snoc hc hb h10 h35 h32))
def joinL:Nat->List Line->List UInt8
 | _,[]=>[]
 | m,(n,ws) :: ls=>List.replicate (n - m) 10 ++ (join 32 ws ++ joinL n ls)
theorem lex_word (n:Nat) (W:List (List UInt8)):∀ (w:List UInt8) (C t:List UInt8),(∀ b ∈ w,33<=b.toNat/\b.toNat<=126/\b≠35)->lex n W C false (w ++ t)=lex n W (C ++ w) false t:=by
 intro w
 induction w with
 | nil=>intro C t _;simp
 | cons b w ih =>
  intro C t h
  obtain ⟨h1,h2,h3⟩:=h b (by simp)
  have h10:b≠10:=fun e=>by subst e;exact absurd h1 (by decide)
  have h32:b≠32:=fun e=>by subst e;exact absurd h1 (by decide)
  rw [List.cons_append,lex_on _ _ _ _ _ h10 h3 h32,ih _ _ (fun c hc=>h c (by simp [hc]))]
  simp
theorem lex_words (n:Nat):∀ (ws:List (List UInt8)) (W:List (List UInt8)),ws≠[]->(∀ w ∈ ws,Clean w)->∃ W' C,close W' C=W ++ ws/\∀ t,lex n W [] false (join 32 ws ++ t)=lex n W' C false t:=by
 intro ws
 induction ws with
 | nil=>intro W h;exact absurd rfl h
 | cons w ws ih =>
  intro W _ h
  have hw:=h w (by simp)
  cases ws with
  | nil =>
   refine ⟨W,w,by unfold close;rw [if_neg hw.1],fun t=>?_⟩
   show lex n W [] false (w ++ t)=_
   rw [lex_word _ _ _ _ _ hw.2];rfl
  | cons v ws =>
   obtain ⟨W',C,e,ht⟩:=ih (W ++ [w]) (by simp) (fun x hx=>h x (by simp [hx]))
   refine ⟨W',C,by rw [e];simp,fun t=>?_⟩
   show lex n W [] false ((w ++ 32 :: join 32 (v :: ws)) ++ t)=_
   rw [List.append_assoc,lex_word _ _ _ _ _ hw.2,List.cons_append,lex_sp,List.nil_append]
   have:close W w=W ++ [w]:=by unfold close;rw [if_neg hw.1]
   rw [this]
   exact ht t
theorem lex_lines:∀ (k n:Nat) (t:List UInt8),lex n [] [] false (List.replicate k 10 ++ t)=lex (n+k) [] [] false t:=by
 intro k
 induction k with
 | zero=>intro n t;simp
 | succ k ih =>
  intro n t
  rw [List.replicate_succ,List.cons_append,lex_nl,ih,show n+1+k=n+(k+1) by omega]
  rfl
theorem lex_join:∀ (ls:List Line) (m:Nat),Good m ls->lex m [] [] false (joinL m ls)=ls/\(∀ (n:Nat) (W:List (List UInt8)) (C:List UInt8),n+1=m->lex n W C false (joinL n ls)=emit n (close W C) ++ ls):=by
 intro ls
 induction ls with
 | nil=>intro m _;exact ⟨rfl,fun n W C _=>by show emit n (close W C)=_;simp⟩
 | cons x ls ih =>
  intro m h
  obtain ⟨k,ws⟩:=x
  obtain ⟨h1,h2,h3,h4⟩:=h
  have main:lex m [] [] false (joinL m ((k,ws) :: ls))=(k,ws) :: ls:=by
   show lex m [] [] false (List.replicate (k - m) 10 ++ (join 32 ws ++ joinL k ls))=_
   rw [lex_lines,show m+(k - m)=k by omega]
   obtain ⟨W',C,e,ht⟩:=lex_words k ws [] h2 h3
   rw [ht,(ih (k+1) h4).2 k W' C rfl,e]
   unfold emit
   rw [if_neg (by simpa using h2)]
   rfl
  refine ⟨main,fun n W C hn=>?_⟩
  subst hn
  have e:joinL n ((k,ws) :: ls)=10 :: joinL (n+1) ((k,ws) :: ls):=by
   show List.replicate (k - n) 10 ++ _=10 :: (List.replicate (k - (n+1)) 10 ++ _)
   rw [show k - n=(k - (n+1))+1 by omega,List.replicate_succ]
   rfl
  rw [e,lex_nl,main]
theorem joinL_ok:∀ (ls:List Line) (m:Nat),Good m ls->(joinL m ls).all okb=true:=by
 have hj:∀ ws:List (List UInt8),(∀ w ∈ ws,Clean w)->(join 32 ws).all okb=true:=by
  intro ws
  induction ws with
  | nil=>intro _;rfl
  | cons w ws ih =>
   intro h
   have hw:w.all okb=true:=by
    rw [List.all_eq_true]
    intro b hb
    have:=(h w (by simp)).2 b hb
    unfold okb
    rw [Bool.or_eq_true,Bool.and_eq_true,decide_eq_true_iff,decide_eq_true_iff]
    exact .inr ⟨by omega,by omega⟩
   cases ws with
   | nil=>exact hw
   | cons v ws =>
    show (w ++ 32 :: join 32 (v :: ws)).all okb=true
    rw [List.all_append,List.all_cons,hw,ih (fun x hx=>h x (by simp [hx]))]
    decide
 intro ls
 induction ls with
 | nil=>intro m _;rfl
 | cons x ls ih =>
  intro m h
  obtain ⟨k,ws⟩:=x
  obtain ⟨h1,h2,h3,h4⟩:=h
  show (List.replicate (k - m) 10 ++ (join 32 ws ++ joinL k ls)).all okb=true
  rw [List.all_append,List.all_append,hj ws h3,ih k (h4.mono (by omega))]
  rw [Bool.and_true,Bool.and_true,List.all_eq_true]
  intro b hb
  rw [List.eq_of_mem_replicate hb];decide
def mass (ws:List (List UInt8)):Nat:=(ws.map fun w=>w.length+1).sum
theorem mass_snoc (ws:List (List UInt8)) (w:List UInt8):mass (ws ++ [w])=mass ws+(w.length+1):=by
 unfold mass;simp
theorem join_len:∀ ws:List (List UInt8),(join 32 ws).length<=mass ws - 1:=by
 intro ws
 induction ws with
 | nil=>simp [join]
 | cons w ws ih =>
  cases ws with
  | nil=>simp [join,mass]
  | cons v ws =>
   show (w ++ 32 :: join 32 (v :: ws)).length<=_
   have e:mass (w :: v :: ws)=w.length+1+mass (v :: ws):=by simp [mass]
   have:1<=mass (v :: ws):=by simp [mass];omega
   rw [e];simp;omega
theorem close_mass (ws:List (List UInt8)) (cur:List UInt8):mass (close ws cur)<=mass ws+cur.length+1/\mass (close ws cur) - 1<=mass ws+cur.length:=by
 unfold close
 split
 ·omega
 ·rw [mass_snoc];omega
theorem lex_len:∀ (l:List UInt8) (n:Nat) (ws:List (List UInt8)) (cur:List UInt8) (off:Bool) (m:Nat),m<=n->(joinL m (lex n ws cur off l)).length<=(n - m)+mass ws+cur.length+l.length:=by
 intro l
 induction l with
 | nil =>
  intro n ws cur off m hm
  show (joinL m (emit n (close ws cur))).length<=_
  unfold emit
  split
  ·simp [joinL]
  ·have h1:=join_len (close ws cur)
   have h2:=(close_mass ws cur).2
   show (List.replicate (n - m) 10 ++ (join 32 (close ws cur) ++ [])).length<=_
   simp;omega
 | cons b l ih =>
  intro n ws cur off m hm
  have hc:=close_mass ws cur
  by_cases h10:b=10
  ·subst h10;rw [lex_nl]
   unfold emit
   split
   ·have:=ih (n+1) [] [] false m (by omega)
    simp [mass] at this ⊢;omega
   ·have:=ih (n+1) [] [] false n (by omega)
    have h1:=join_len (close ws cur)
    show (List.replicate (n - m) 10 ++ (join 32 (close ws cur) ++ joinL n (lex (n+1) [] [] false l))).length<=_
    simp [mass] at this ⊢
    have:=hc.2
    simp [mass] at h1 this
    omega
  ·by_cases h35:b=35
   ·subst h35;rw [lex_hash]
    have:=ih n (close ws cur) [] true m hm
    simp at this ⊢;omega
   ·by_cases h32:b=32
    ·subst h32;rw [lex_sp]
     have:=ih n (close ws cur) [] off m hm
     simp at this ⊢;omega
    ·cases off with
     | true=>rw [lex_off _ _ _ _ _ h10 h35 h32];have:=ih n ws cur true m hm;simp at this ⊢;omega
     | false=>rw [lex_on _ _ _ _ _ h10 h35 h32];have:=ih n ws (cur ++ [b]) false m hm;simp at this ⊢;omega
theorem again {l:List UInt8} (h:errOf l=0):Good 1 (linesOf l)/\(joinL 1 (linesOf l)).length<=l.length/\errOf (joinL 1 (linesOf l))=0/\linesOf (joinL 1 (linesOf l))=linesOf l:=by
 obtain ⟨h1,h2⟩:=errOf_zero h
 have e:=(errOf_ok h1 h2).2.2
 have hg:Good 1 (linesOf l):=by rw [e];exact lex_good l 1 [] [] false h2 (fun w h=>by cases h) (.inl rfl)
 have hl:(joinL 1 (linesOf l)).length<=l.length:=by
  rw [e]
  have:=lex_len l 1 [] [] false 1 (Nat.le_refl _)
  simpa [mass] using this
 have hk:=errOf_ok (l:=joinL 1 (linesOf l)) (by omega) (joinL_ok _ _ hg)
 exact ⟨hg,hl,hk.1,by rw [hk.2.2];exact (lex_join _ _ hg).1⟩
end Go.TxtM
set_option linter.unusedVariables false
set_option linter.unusedSimpArgs false
namespace Go.RulM
open Go.Lib Go.AdrM
open Go.TxtM (Line okN valN okN_iff valN_yes valN_no top errOf lineOf linesOf lex okb emit close)
structure R where
 acc:Bool
 pr:Nat
 sa:Nat
 sb:Int
 da:Nat
 db:Int
 sl:Nat
 sh:Nat
 dl:Nat
 dh:Nat
deriving DecidableEq
structure R.Ok (r:R):Prop where
 pr:r.pr < 256
 sa:r.sa < 4294967296
 sb : -9223372036854775808<=r.sb/\r.sb<=9223372036854775807
 da:r.da < 4294967296
 db : -9223372036854775808<=r.db/\r.db<=9223372036854775807
 sl:r.sl < 65536
 sh:r.sh < 65536
 dl:r.dl < 65536
 dh:r.dh < 65536
def icmpL:List UInt8:=[105,99,109,112]
def tcpL:List UInt8:=[116,99,112]
def udpL:List UInt8:=[117,100,112]
def acceptL:List UInt8:=[97,99,99,101,112,116]
def dropL:List UInt8:=[100,114,111,112]
def wordS (p:Nat):List UInt8:=if p=0 then anyL else if p=1 then icmpL else if p=6 then tcpL else if p=17 then udpL else []
def known (p:Nat):Bool:=p == 0 || p == 1 || p == 6 || p == 17
theorem known_iff (p:Nat):known p=true ↔ p=0\/p=1\/p=6\/p=17:=by unfold known;simp [or_assoc]
theorem known_word (p:Nat):(wordS p == []) = !known p:=by
 unfold wordS known
 by_cases h0:p=0
 ·subst h0;rfl
 ·by_cases h1:p=1
  ·subst h1;rfl
  ·by_cases h6:p=6
   ·subst h6;rfl
   ·by_cases h17:p=17
    ·subst h17;rfl
    ·simp [h0,h1,h6,h17]
def spanS (a b:Nat):List UInt8:=if a=0/\b=65535 then anyL else if a=b then decDigits a else decDigits a ++ 45 :: decDigits b
def netL (a:Nat) (n:Int):List UInt8:=if n=0 then anyL else printS a ++ (47 :: decDigits n.toNat)
theorem show_yes {a:Nat} {n:Int} (h:validS a n=true):showS a n=some (netL a n):=by unfold showS;rw [if_pos h];rfl
theorem show_no {a:Nat} {n:Int} (h:validS a n=false):showS a n=none:=by unfold showS;rw [h];rfl
def verdL (b:Bool):List UInt8:=if b=true then acceptL else dropL
def goodR (r:R):Bool:=known r.pr && validS r.sa r.sb && validS r.da r.db && decide (r.sl<=r.sh) && decide (r.dl<=r.dh)
theorem goodR_iff (r:R):goodR r=true ↔ known r.pr=true/\validS r.sa r.sb=true/\validS r.da r.db=true/\r.sl<=r.sh/\r.dl<=r.dh:=by
 unfold goodR;simp [Bool.and_eq_true,and_assoc]
def wordsR (r:R):List (List UInt8):=[verdL r.acc,wordS r.pr,netL r.sa r.sb,spanS r.sl r.sh,netL r.da r.db,spanS r.dl r.dh]
def Ink (w:List UInt8):Prop:=∀ b ∈ w,33<=b.toNat/\b.toNat<=126/\b≠35
instance (w:List UInt8):Decidable (Ink w):=inferInstanceAs (Decidable (∀ b ∈ w,_))
theorem ink_no (w:List UInt8) (h:Ink w):(32:UInt8) ∉ w:=fun hm=>by
 have:=(h 32 hm).1
 exact absurd this (by decide)
theorem good_bits {r:R} (h:goodR r=true):(0<=r.sb/\r.sb<=32)/\0<=r.db/\r.db<=32:=by
 obtain ⟨_,h1,h2,_⟩:=(goodR_iff r).1 h
 exact ⟨(validS_mk.1 h1).1,(validS_mk.1 h2).1⟩
def portN (l:List UInt8):Option Nat:=if okN l=true/\valN l<=65535 then some (valN l) else none
theorem okN_dec {n:Nat} (h:n<=top):okN (decDigits n)=true:=(okN_iff _).2 ⟨by rw [List.all_eq_true];exact decDigits_dig n,by rw [decDigits_val],by rw [decDigits_val];exact h⟩
theorem valN_dec {n:Nat} (h:n<=top):valN (decDigits n)=n:=by rw [valN_yes (okN_dec h),decDigits_val]
theorem okN_is {l:List UInt8} (h:okN l=true):decDigits (valN l)=l:=by
 rw [valN_yes h];exact ((okN_iff l).1 h).2.1
theorem portN_some {l:List UInt8} {n:Nat}:portN l=some n ↔ l=decDigits n/\n<=65535:=by
 unfold portN
 constructor
 ·intro h
  split at h
  ·rename_i hh
   cases h
   exact ⟨(okN_is hh.1).symm,hh.2⟩
  ·cases h
 ·rintro ⟨rfl,h⟩
  have ht:n<=top:=by unfold top;omega
  rw [okN_dec ht,valN_dec ht,if_pos ⟨rfl,h⟩]
theorem portN_dec {n:Nat} (h:n<=65535):portN (decDigits n)=some n:=portN_some.2 ⟨rfl,h⟩
theorem no_dash (n:Nat):(45:UInt8) ∉ decDigits n:=no_dot n 45 (by decide)
theorem cut_hit (c:UInt8) (p r:List UInt8) (h:c ∉ p):cut (p ++ c :: r) [c]=(p,r,true):=by
 have hi:=index_hit c p r h
 unfold cut
 rw [hi,if_pos (by omega)]
 simp
theorem cut_miss (c:UInt8) (p:List UInt8) (h:c ∉ p):cut p [c]=(p,[],false):=by
 have hi:=index_miss c p h
 unfold cut
 rw [hi,if_neg (by omega)]
def lowS (l:List UInt8):List UInt8:=(cut l [45]).1
def highS (l:List UInt8):List UInt8:=if (cut l [45]).2.2=true then (cut l [45]).2.1 else (cut l [45]).1
theorem low_two (a b:Nat):lowS (decDigits a ++ 45 :: decDigits b)=decDigits a/\highS (decDigits a ++ 45 :: decDigits b)=decDigits b:=by
 unfold lowS highS;rw [cut_hit 45 _ _ (no_dash a)];exact ⟨rfl,rfl⟩
theorem low_one (a:Nat):lowS (decDigits a)=decDigits a/\highS (decDigits a)=decDigits a:=by
 unfold lowS highS;rw [cut_miss 45 _ (no_dash a)];exact ⟨rfl,rfl⟩
def spanP (l:List UInt8):Option (Nat × Nat) :=
 if l=anyL then some (0,65535) else
 match portN (lowS l),portN (highS l) with
 | some a,some b=>if a<=b/\spanS a b=l then some (a,b) else none
 | _,_=>none
theorem spanP_any:spanP anyL=some (0,65535):=by unfold spanP;rw [if_pos rfl]
theorem span_any (a b:Nat) (h:spanS a b=anyL):a=0/\b=65535:=by
 unfold spanS at h
 split at h
 ·assumption
 ·exfalso
  have hm:(97:UInt8) ∈ anyL:=by decide
  rw [← h] at hm
  split at hm
  ·exact absurd (decDigits_dig a _ hm) (by decide)
  ·rcases List.mem_append.1 hm with hm | hm
   ·exact absurd (decDigits_dig a _ hm) (by decide)
   ·rcases List.mem_cons.1 hm with hm | hm
    ·exact absurd hm (by decide)
    ·exact absurd (decDigits_dig b _ hm) (by decide)
theorem spanP_some {l:List UInt8} {a b:Nat}:spanP l=some (a,b) ↔ a<=b/\b<=65535/\spanS a b=l:=by
 unfold spanP
 constructor
 ·intro h
  split at h
  ·rename_i e
   subst e
   cases h
   exact ⟨by omega,by omega,rfl⟩
  ·split at h
   ·rename_i x y hx hy
    split at h
    ·rename_i hh
     cases h
     exact ⟨hh.1,(portN_some.1 hy).2,hh.2⟩
    ·cases h
   ·cases h
 ·rintro ⟨h1,h2,rfl⟩
  by_cases hA:a=0/\b=65535
  ·obtain ⟨rfl,rfl⟩:=hA
   rfl
  ·have hne:spanS a b≠anyL:=fun e=>hA (span_any a b e)
   rw [if_neg hne]
   have e:spanS a b=if a=b then decDigits a else decDigits a ++ 45 :: decDigits b:=by unfold spanS;rw [if_neg hA]
   by_cases hab:a=b
   ·subst hab
    rw [if_pos rfl] at e
    rw [e,(low_one a).1,(low_one a).2,portN_dec h2]
    simp only []
    rw [if_pos ⟨h1,e⟩]
   ·rw [if_neg hab] at e
    rw [e,(low_two a b).1,(low_two a b).2,portN_dec h2,portN_dec (by omega)]
    simp only []
    rw [if_pos ⟨h1,e⟩]
def protoP (w:List UInt8):Option Nat:=if w=anyL then some 0 else if w=icmpL then some 1 else if w=tcpL then some 6 else if w=udpL then some 17 else none
theorem protoP_some {w:List UInt8} {p:Nat}:protoP w=some p ↔ known p=true/\wordS p=w:=by
 unfold protoP
 constructor
 ·intro h
  split at h
  ·rename_i e;cases h;subst e;exact ⟨rfl,rfl⟩
  ·split at h
   ·rename_i e;cases h;subst e;exact ⟨rfl,rfl⟩
   ·split at h
    ·rename_i e;cases h;subst e;exact ⟨rfl,rfl⟩
    ·split at h
     ·rename_i e;cases h;subst e;exact ⟨rfl,rfl⟩
     ·cases h
 ·rintro ⟨hk,rfl⟩
  rcases (known_iff p).1 hk with rfl | rfl | rfl | rfl <;> rfl
def parseW:List (List UInt8)->Option R
 | [v,p,s,sp,d,dp] =>
  if v=acceptL\/v=dropL then
   match protoP p,netS s,spanP sp,netS d,spanP dp with
   | some p,some (sa,sb),some (sl,sh),some (da,db),some (dl,dh)=>some ⟨decide (v=acceptL),p,sa,sb,da,db,sl,sh,dl,dh⟩
   | _,_,_,_,_=>none
  else none
 | _=>none
theorem netS_some {l:List UInt8} {a n:Nat}:netS l=some (a,n) ↔ validS a (n:Int)=true/\a < 4294967296/\netL a (n:Int)=l:=by
 constructor
 ·intro h
  obtain ⟨h1,h2,h3⟩:=show_net h
  cases hv:validS a (n:Int) with
  | false=>rw [show_no hv] at h1;cases h1
  | true=>rw [show_yes hv] at h1;exact ⟨rfl,h2,Option.some.inj h1⟩
 ·rintro ⟨h1,h2,h3⟩
  have:=net_show h2 (show_yes h1)
  rw [h3] at this
  simpa using this
theorem parseW_some {ws:List (List UInt8)} {r:R}:parseW ws=some r ↔ goodR r=true/\r.Ok/\wordsR r=ws:=by
 constructor
 ·intro h
  unfold parseW at h
  split at h
  ·rename_i v p s sp d dp
   split at h
   ·rename_i hv
    split at h
    ·rename_i p' sa sb sl sh da db dl dh h1 h2 h3 h4 h5
     cases h
     obtain ⟨a1,a2⟩:=protoP_some.1 h1
     obtain ⟨b1,b2,b3⟩:=netS_some.1 h2
     obtain ⟨c1,c2,c3⟩:=spanP_some.1 h3
     obtain ⟨d1,d2,d3⟩:=netS_some.1 h4
     obtain ⟨e1,e2,e3⟩:=spanP_some.1 h5
     have q1:=(validS_mk.1 b1).1
     have q2:=(validS_mk.1 d1).1
     have hp:p' < 256:=by rcases (known_iff p').1 a1 with rfl | rfl | rfl | rfl <;> decide
     refine ⟨(goodR_iff _).2 ⟨a1,b1,d1,c1,e1⟩,⟨hp,b2,⟨?_,?_⟩,d2,⟨?_,?_⟩,?_,?_,?_,?_⟩,?_⟩
     ·show _<=(sb:Int);omega
     ·show (sb:Int)<=_;omega
     ·show _<=(db:Int);omega
     ·show (db:Int)<=_;omega
     ·show sl < _;omega
     ·show sh < _;omega
     ·show dl < _;omega
     ·show dh < _;omega
     ·unfold wordsR
      show [verdL (decide (v=acceptL)),wordS p',netL sa (sb:Int),spanS sl sh,netL da (db:Int),spanS dl dh]=_
      rw [a2,b3,c3,d3,e3]
      congr 1
      rcases hv with rfl | rfl <;> rfl
    ·cases h
   ·cases h
  ·cases h
 ·rintro ⟨hg,ho,rfl⟩
  obtain ⟨hk,hs,hd,hss,hdd⟩:=(goodR_iff r).1 hg
  obtain ⟨hb1,hb2⟩:=good_bits hg
  have e1:protoP (wordS r.pr)=some r.pr:=protoP_some.2 ⟨hk,rfl⟩
  have n1:((r.sb.toNat:Nat):Int)=r.sb:=by omega
  have n2:((r.db.toNat:Nat):Int)=r.db:=by omega
  have e2:netS (netL r.sa r.sb)=some (r.sa,r.sb.toNat):=netS_some.2 ⟨by rw [n1];exact hs,ho.sa,by rw [n1]⟩
  have e4:netS (netL r.da r.db)=some (r.da,r.db.toNat):=netS_some.2 ⟨by rw [n2];exact hd,ho.da,by rw [n2]⟩
  have e3:spanP (spanS r.sl r.sh)=some (r.sl,r.sh):=spanP_some.2 ⟨hss,by have:=ho.sh;omega,rfl⟩
  have e5:spanP (spanS r.dl r.dh)=some (r.dl,r.dh):=spanP_some.2 ⟨hdd,by have:=ho.dh;omega,rfl⟩
  unfold wordsR parseW
  simp only [e1,e2,e3,e4,e5]
  obtain ⟨acc,pr,sa,sb,da,db,sl,sh,dl,dh⟩:=r
  simp only at n1 n2 ⊢
  rw [if_pos (by cases acc <;> simp [verdL]),n1,n2]
  cases acc <;> rfl
theorem parseW_len {ws:List (List UInt8)} (h:ws.length≠6):parseW ws=none:=by
 cases hp:parseW ws with
 | none=>rfl
 | some r=>exact absurd (by rw [← (parseW_some.1 hp).2.2];rfl) h
def comp:List R->List Line->List R × Nat × Nat
 | acc,[]=>(acc,0,0)
 | acc,(n,ws) :: ls=>if acc.length=64 then ([],n,14) else
  match parseW ws with
  | some r=>comp (acc ++ [r]) ls
  | none=>([],n,3)
def compile (l:List UInt8):List R × Nat × Nat:=if errOf l=0 then comp [] (linesOf l) else ([],lineOf l,errOf l)
theorem drop_at {ls:List Line} {k n:Nat} {ws:List (List UInt8)} (h:ls[k]? = some (n,ws)):ls.drop k=(n,ws) :: ls.drop (k+1):=by
 obtain ⟨hlt,he⟩:=List.getElem?_eq_some_iff.1 h
 rw [List.drop_eq_getElem_cons hlt,he]
theorem comp_many {ls:List Line} {k n:Nat} {ws:List (List UInt8)} {acc:List R} (h:ls[k]? = some (n,ws)) (ha:acc.length=64):comp acc (ls.drop k)=([],n,14):=by
 rw [drop_at h];unfold comp;rw [if_pos ha]
theorem comp_bad {ls:List Line} {k n:Nat} {ws:List (List UInt8)} {acc:List R} (h:ls[k]? = some (n,ws)) (ha:acc.length≠64) (hp:parseW ws=none):comp acc (ls.drop k)=([],n,3):=by
 rw [drop_at h];unfold comp;rw [if_neg ha,hp]
theorem comp_step {ls:List Line} {k n:Nat} {ws:List (List UInt8)} {acc:List R} {r:R} (h:ls[k]? = some (n,ws)) (ha:acc.length≠64) (hp:parseW ws=some r):comp acc (ls.drop k)=comp (acc ++ [r]) (ls.drop (k+1)):=by
 rw [drop_at h,comp,if_neg ha,hp]
theorem comp_end {ls:List Line} {k:Nat} {acc:List R} (h:ls.length<=k):comp acc (ls.drop k)=(acc,0,0):=by
 rw [List.drop_eq_nil_of_le h];rfl
theorem comp_form:∀ (ls:List Line) (acc:List R),acc.length<=64->acc.all goodR=true->(∀ r ∈ acc,r.Ok) →
  ((comp acc ls).2.2=0->(comp acc ls).1.length<=64/\(comp acc ls).1.all goodR=true/\∀ r ∈ (comp acc ls).1,r.Ok)/\((comp acc ls).2.2≠0->(comp acc ls).1=[])/\(comp acc ls).2.2<=14/\((comp acc ls).2.2=0->(comp acc ls).2.1=0):=by
 intro ls
 induction ls with
 | nil=>intro acc h1 h2 h3;exact ⟨fun _=>⟨h1,h2,h3⟩,fun h=>absurd rfl h,Nat.zero_le _,fun _=>rfl⟩
 | cons x ls ih =>
  intro acc h1 h2 h3
  obtain ⟨n,ws⟩:=x
  rw [comp]
  split
  ·exact ⟨(fun h=>by cases h),(fun _=>rfl),Nat.le_refl _,(fun h=>by cases h)⟩
  ·split
   ·rename_i r hp
    obtain ⟨hg,ho,_⟩:=parseW_some.1 hp
    refine ih _ (by simp;omega) (by rw [List.all_append,h2];simp [hg]) (fun q hq=>?_)
    rcases List.mem_append.1 hq with hq | hq
    ·exact h3 q hq
    ·rw [List.mem_singleton.1 hq];exact ho
   ·exact ⟨(fun h=>by cases h),(fun _=>rfl),(by show 3<=14;omega),(fun h=>by cases h)⟩
theorem compile_ok {l:List UInt8} (h:(compile l).2.2=0):(compile l).1.length<=64/\(compile l).1.all goodR=true/\(∀ r ∈ (compile l).1,r.Ok)/\(compile l).2.1=0:=by
 unfold compile at h ⊢
 split
 ·rename_i h0
  rw [if_pos h0] at h
  have:=comp_form (linesOf l) [] (by simp) rfl (fun r hr=>by cases hr)
  exact ⟨(this.1 h).1,(this.1 h).2.1,(this.1 h).2.2,this.2.2.2 h⟩
 ·rename_i h0
  rw [if_neg h0] at h
  exact absurd h h0
theorem compile_err {l:List UInt8} (h:(compile l).2.2≠0):(compile l).1=[]:=by
 unfold compile at h ⊢
 split
 ·rename_i h0
  rw [if_pos h0] at h
  exact (comp_form (linesOf l) [] (by simp) rfl (fun r hr=>by cases hr)).2.1 h
 ·rfl
theorem compile_le (l:List UInt8):(compile l).2.2<=14/\(compile l).1.length<=64/\(∀ r ∈ (compile l).1,r.Ok):=by
 by_cases h:(compile l).2.2=0
 ·exact ⟨by omega,(compile_ok h).1,(compile_ok h).2.2.1⟩
 ·rw [compile_err h]
  refine ⟨?_,by simp,fun r hr=>by cases hr⟩
  unfold compile
  split
  ·exact (comp_form (linesOf l) [] (by simp) rfl (fun r hr=>by cases hr)).2.2.1
  ·have:=TxtM.errOf_le l;show errOf l<=14;omega
end Go.RulM
set_option linter.unusedVariables false
namespace Go.RulM
open Go.Lib Go.AdrM
open Go.TxtM (Line errOf lineOf linesOf joinL)
theorem join_mem:∀ (ws:List (List UInt8)) (x:List UInt8),x ∈ ws->x.length<=(join 32 ws).length:=by
 intro ws
 induction ws with
 | nil=>intro x h;cases h
 | cons w ws ih =>
  intro x h
  cases ws with
  | nil=>rw [List.mem_singleton.1 h];exact Nat.le_refl _
  | cons v ws =>
   show _<=(w ++ 32 :: join 32 (v :: ws)).length
   rw [List.length_append,List.length_cons]
   rcases List.mem_cons.1 h with rfl | h
   ·omega
   ·have:=ih x h;omega
theorem joinL_mem:∀ (ls:List Line) (m n:Nat) (ws:List (List UInt8)) (x:List UInt8),(n,ws) ∈ ls->x ∈ ws->x.length<=(joinL m ls).length:=by
 intro ls
 induction ls with
 | nil=>intro m n ws x h;cases h
 | cons q ls ih =>
  intro m n ws x h hx
  obtain ⟨n',ws'⟩:=q
  show _<=(List.replicate (n' - m) 10 ++ (join 32 ws' ++ joinL n' ls)).length
  rw [List.length_append,List.length_append]
  rcases List.mem_cons.1 h with h | h
  ·cases h
   have:=join_mem ws x hx
   omega
  ·have:=ih n' n ws x h hx;omega
theorem good_mem:∀ (ls:List Line) (m n:Nat) (ws:List (List UInt8)),TxtM.Good m ls->(n,ws) ∈ ls->∀ x ∈ ws,TxtM.Clean x:=by
 intro ls
 induction ls with
 | nil=>intro m n ws _ h;cases h
 | cons q ls ih =>
  intro m n ws hg h
  obtain ⟨n',ws'⟩:=q
  rcases List.mem_cons.1 h with h | h
  ·cases h;exact hg.2.2.1
  ·exact ih _ n ws hg.2.2.2 h
theorem words_of {l:List UInt8} (h:errOf l=0) {n:Nat} {ws:List (List UInt8)} (hm:(n,ws) ∈ linesOf l):∀ x ∈ ws,x.length<=4096/\(32:UInt8) ∉ x:=by
 obtain ⟨h1,h2,_,_⟩:=TxtM.again h
 obtain ⟨h3,_⟩:=TxtM.errOf_zero h
 intro x hx
 refine ⟨?_,?_⟩
 ·have:=joinL_mem (linesOf l) 1 n ws x hm hx;omega
 ·exact ink_no x (good_mem _ _ n ws h1 hm x hx).2
end Go.RulM
set_option linter.unusedVariables false
set_option linter.unusedSimpArgs false
namespace Go.MatM
open Go.RulM (R)
open Go.AdrM (validS hasS)
structure K where
 pr:Nat
 sr:Nat
 ds:Nat
 sp:Nat
 dp:Nat
 fl:Nat
 kd:Nat
structure K.Ok (k:K):Prop where
 pr:k.pr < 256
 sr:k.sr < 4294967296
 ds:k.ds < 4294967296
 sp:k.sp < 65536
 dp:k.dp < 65536
 fl:k.fl < 256
 kd:k.kd < 256
def protoB (r:R) (k:K):Bool:=decide (r.pr=0) || decide (r.pr=k.pr)
def inB (a b x:Nat):Bool:=decide (a<=x) && decide (x<=b)
def hitB (r:R) (k:K):Bool:=protoB r k && ((hasS r.sa r.sb k.sr && hasS r.da r.db k.ds) && (inB r.sl r.sh k.sp && inB r.dl r.dh k.dp))
theorem protoB_any {r:R} {k:K} (h:r.pr=0):protoB r k=true:=by unfold protoB;rw [decide_eq_true h,Bool.true_or]
theorem protoB_is {r:R} {k:K} (h:r.pr≠0):protoB r k=decide (r.pr=k.pr):=by unfold protoB;rw [decide_eq_false h,Bool.false_or]
def fst (k:K) (rs:List R):Option Nat:=rs.findIdx? (fun r=>hitB r k)
def idxI:Option Nat->Int
 | some n=>(n:Int)
 | none=>-1
def accB (rs:List R):Option Nat->Bool
 | some n=>(rs[n]?.map (·.acc)).getD false
 | none=>false
theorem fst_hit {k:K} {rs:List R} {i:Nat} {r:R} (hr:rs[i]? = some r) (hh:hitB r k=true) (hb:∀ (j:Nat) q,j < i->rs[j]? = some q->hitB q k=false):fst k rs=some i:=by
 obtain ⟨hi,e⟩:=List.getElem?_eq_some_iff.1 hr
 refine List.findIdx?_eq_some_iff_getElem.2 ⟨hi,by rw [e];exact hh,fun j hj=>?_⟩
 rw [hb j _ hj (List.getElem?_eq_getElem (by omega))]
 decide
theorem fst_none {k:K} {rs:List R} (hb:∀ (j:Nat) q,rs[j]? = some q->hitB q k=false):fst k rs=none:=by
 refine List.findIdx?_eq_none_iff.2 fun x hx=>?_
 obtain ⟨i,hi,rfl⟩:=List.getElem_of_mem hx
 exact hb i _ (List.getElem?_eq_getElem hi)
def few (rs:List R):List R:=if 100 < rs.length then rs.take 100 else rs
theorem few_ok {rs:List R} (h:∀ r ∈ rs,r.Ok):∀ r ∈ few rs,r.Ok:=by
 unfold few;split
 ·exact fun r hr=>h r (List.mem_of_mem_take hr)
 ·exact h
end Go.MatM
