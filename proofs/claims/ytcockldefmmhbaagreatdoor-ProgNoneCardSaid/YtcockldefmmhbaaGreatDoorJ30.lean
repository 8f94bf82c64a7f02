/- Several texts of this proof in one file, each in its own namespace. -/
import Derived.Test.YtcockldefmmhbaaGreatDoorComO
import Derived.StillTailTactics
import Derived.IntWalk
import Derived.Laws.CopyOwn
import Derived.Test.YtcockldefmmhbaaGreatDoorJ12
import Derived.Test.YtcockldefmmhbaaGreatDoorJ7
import Derived.ChangeSlices
set_option linter.unusedVariables false
namespace Go.Mtl
open Go.RowKit
theorem still_of {P:Program} {f:FuncId} {args:Array Value} {w:World} {v:Value} (h:Calls P f args w fun e w'=>e = .returned v/\w=w'):Calls P f args w fun e w''=>e = .returned v/\w''=w :=
 h.mono fun _ _ ⟨a,b⟩=>⟨a,b.symm⟩
theorem region_still_tail {P:Program} {id:Nat} {Q:Exit->Act->World->Prop} {a:Act} {w:World} {l:List Oper} (n:Nat) (hm:P.follows .mixedOrders=true) (hB:Region.lexTailB .any l.toArray n=true)
  (w1:World) (hw:w1=w.drew) (h:wpStill P l.toArray w1 (fun a'=>wpList P l.toArray Q (l.drop n) a' w1) (l.take n) a):(Code.region id l.toArray true).wp P Q a w:=by
 subst hw
 exact wp_region_still_tail n hm hB h
section
variable {P:Program} {w:World} {o:Oper} {a:Act} {K:Act->World->Prop} {Q:Exit->Act->World->Prop}
end
def over (l:List UInt8) (i:Nat) (cs:List UInt8):List UInt8:=l.take i ++ (cs ++ l.drop (i+cs.length))
theorem over_all (l cs:List UInt8) (h:l.length=cs.length):over l 0 cs=cs:=by simp [over,← h]
theorem over_nil (l:List UInt8) (i:Nat):over l i []=l:=by simp [over]
theorem run_copy_bts {P:Program} {w:World} (dT sT ty elem:TypeId) (hu:P.underlying dT=some (.slice elem)) (hsz:(P.info? elem).map (·.size)=some 1)
  (dp sp:Option Addr) (g off dLen dCap sLen sCap B:Nat) (l cs:List UInt8) (t:TypeId) (hg:w.heap[g]? = some (.cells (bvs l).toArray t (0,0))) (hb:Bts w B sp sLen cs) (hle:sLen<=dLen) (hfit:off+sLen<=l.length)
  (hpos:0 < sLen->dp=some ⟨g,off,none⟩) :
  ∃ w',(Builtin.copy_ #[dT,sT] ty #[.slice dp dLen dCap,.slice sp sLen sCap]).run P w = .ok (goInt sLen) w'/\w'.heap[g]? = some (.cells (bvs (over l off cs)).toArray t (0,0))/\w.grownBy w' (some g):=by
 have hl:=hb.len
 rcases Nat.eq_zero_or_pos sLen with h0 | h0
 ·have hcs:cs=[]:=List.eq_nil_of_length_eq_zero (by omega)
  subst hcs
  refine ⟨w,?_,by rw [over_nil];exact hg,World.grownBy.refl w _⟩
  rw [run_copy_none (P:=P) w dT sT ty elem dp sp dLen dCap sLen sCap hu hsz (by subst h0;simp),h0]
  rfl
 ·obtain ⟨b,o,rfl,_,hc⟩:=hb.at_ h0
  obtain rfl:=hpos h0
  have hrun:=run_copy_row (P:=P) w dT sT ty elem g off dLen dCap ⟨b,o,none⟩ sLen sCap (bvs l).toArray t (bvs cs) hu hsz hg (by rw [bvs_len,hl];exact (Nat.min_eq_left hle).symm)
   (by
    intro j v hv
    have hj:j < cs.length:=by have:=(List.getElem?_eq_some_iff.1 hv).1;rwa [bvs_len] at this
    have e:(Addr.add ⟨b,o,none⟩ j)=⟨b,o+j,none⟩:=by unfold Addr.add;split <;> simp_all
    rw [e,hc j (by omega),← hv,bvs_at cs j hj])
   (by simp [bvs_len];omega)
   (by
    intro v hv
    unfold bvs at hv
    obtain ⟨c,_,rfl⟩:=List.mem_map.1 hv
    rfl)
  have e:(bvs l).toArray.toList.take off ++ bvs cs ++ (bvs l).toArray.toList.drop (off+(bvs cs).length)=bvs (over l off cs):=by simp [over,bvs,List.map_take,List.map_drop]
  rw [e,bvs_len,hl] at hrun
  exact ⟨_,hrun,setRow_heap w g _ _ t _ hg,⟨rfl,rfl,rfl,by simp [World.setRow],fun k _ hk=>setRow_other w g k _ (fun e=>hk (by simp [e]))⟩⟩
section
variable {P:Program} {w:World} {o:Oper} {a:Act} {K:Act->World->Prop} {Q:Exit->Act->World->Prop}
theorem wp_copy_bts (d s:Operand) (dT sT:TypeId) (ho:o.op = .call { callee:=.builtin .copy,args:=#[d,s],argTypes:=#[dT,sT] }) (elem:TypeId) (hu:P.underlying dT=some (.slice elem)) (hsz:(P.info? elem).map (·.size)=some 1)
  (dp sp:Option Addr) (g off dLen dCap sLen sCap B:Nat) (hd:a.eval d = .slice dp dLen dCap) (hs:a.eval s = .slice sp sLen sCap)
  (l cs:List UInt8) (t:TypeId) (hg:w.heap[g]? = some (.cells (bvs l).toArray t (0,0))) (hb:Bts w B sp sLen cs) (hle:sLen<=dLen) (hfit:off+sLen<=l.length)
  (hpos:0 < sLen->dp=some ⟨g,off,none⟩)
  (h:∀ w',w'.heap[g]? = some (.cells (bvs (over l off cs)).toArray t (0,0))->w.grownBy w' (some g)->K (a.put o.dst (goInt sLen)) w'):o.wp P a w K Q:=by
 obtain ⟨w',h0,h1,h2⟩:=run_copy_bts (P:=P) dT sT o.type elem hu hsz dp sp g off dLen dCap sLen sCap B l cs t hg hb hle hfit hpos
 unfold Oper.wp execOp
 simp only [ho,resolve,invoke,builtin,Sem.run_bind,Sem.run_pure,Result.andThen_ok,List.map_toArray,List.map_cons,List.map_nil,hd,hs,h0]
 exact h _ h1 h2
theorem wpList_copy_bts {ops:Array Oper} {rest:List Oper} (hgd:o.guard=none) (d s:Operand) (dT sT:TypeId) (ho:o.op = .call { callee:=.builtin .copy,args:=#[d,s],argTypes:=#[dT,sT] }) (elem:TypeId) (hu:P.underlying dT=some (.slice elem)) (hsz:(P.info? elem).map (·.size)=some 1)
  (dp sp:Option Addr) (g off dLen dCap sLen sCap B:Nat) (hd:a.eval d = .slice dp dLen dCap) (hs:a.eval s = .slice sp sLen sCap)
  (l cs:List UInt8) (t:TypeId) (hg:w.heap[g]? = some (.cells (bvs l).toArray t (0,0))) (hb:Bts w B sp sLen cs) (hle:sLen<=dLen) (hfit:off+sLen<=l.length)
  (hpos:0 < sLen->dp=some ⟨g,off,none⟩)
  (h:∀ w',w'.heap[g]? = some (.cells (bvs (over l off cs)).toArray t (0,0))->w.grownBy w' (some g)->wpList P ops Q rest (a.put o.dst (goInt sLen)) w'):wpList P ops Q (o :: rest) a w :=
 wpList_plain hgd fun _ hK=>wp_copy_bts d s dT sT ho elem hu hsz dp sp g off dLen dCap sLen sCap B hd hs l cs t hg hb hle hfit hpos fun w' h1 h2=>hK _ _ (h w' h1 h2)
end
theorem at_slot (k:Nat) {P:Program} {w:World} {ops:Array Oper} {rest:List Oper} {a:Act} {Q:Exit->Act->World->Prop} {op:Op} {ty:TypeId} {pos:String} {aft:Array Edge} {gd:Option (Nat × Bool)}
  (h:wpList P ops Q (⟨some k,op,ty,pos,aft,gd⟩ :: rest) a w):wpList P ops Q (⟨some k,op,ty,pos,aft,gd⟩ :: rest) a w:=h
end Go.Mtl
set_option linter.unusedVariables false
namespace Go.Mtl
open Go.RowKit
section
variable {P:Program} {w:World} {o:Oper} {a:Act} {K:Act->World->Prop} {Q:Exit->Act->World->Prop}
theorem wpList_append_at {ops:Array Oper} {rest:List Oper} (k:Nat) (hgd:o.guard=none) (s x:Operand) (t:TypeId)
  (ho:o.op = .call { callee:=.builtin .append,args:=#[s,x],argTypes:=#[t,t] })
  (base:Nat) (e:TypeId) (i:TypeInfo) (ht:P.underlying t=some (.slice e)) (hi:P.info? e=some i) (hz:i.zero=some (.int .u8 0)) (hsize:i.size=1) (hby:i.bytes=1)
  (v:Value) (n:Nat) (xs:List UInt8) (hs:a.eval s=v) (hown:w.ownsRow base e 1 v n (bvs xs))
  (B:Nat) (A:Option Addr) (m c:Nat) (ys:List UInt8) (hx:a.eval x = .slice A m c) (hr:Bts w B A m ys) (hk:n+m=k) (hn:k<=1073741824) (hbase:base<=w.heap.size)
  (h:∀ A' c' w',w'.ownsRow base e 1 (.slice A' k c') k (bvs (xs ++ ys))->w.grownBy w' v.ownBlock->(k<=c'/\c'<=9223372036854775807)->wpList P ops Q rest (a.put o.dst (.slice A' k c')) w') :
  wpList P ops Q (o :: rest) a w:=by
 subst hk
 exact wpList_append_bts hgd s x t ho base e i ht hi hz hsize hby v n xs hs hown B A m c ys hx hr hn hbase h
end
end Go.Mtl
set_option linter.unusedVariables false
namespace Go.Proofs.YtcockldefmmhbaaGreatDoor
open Go.Mtl
namespace IpM
open SumM (add tot byt_out)
theorem byte_eq (a b:Nat) (h:a % 256=b % 256):UInt8.ofNat a=UInt8.ofNat b:=by
 apply UInt8.toNat_inj.1;simp;exact h
theorem cut_two (v:Nat):FldM.cutN v 2=twoB v:=by
 simp [FldM.cutN,twoB,List.range_succ]
theorem cut_four (v:Nat):FldM.cutN v 4=fourB v:=by
 simp [FldM.cutN,fourB,twoB,List.range_succ]
 refine ⟨byte_eq _ _ (by omega),byte_eq _ _ (by omega),byte_eq _ _ (by omega)⟩
end IpM
end Go.Proofs.YtcockldefmmhbaaGreatDoor
set_option linter.unusedVariables false
set_option linter.unusedSimpArgs false
namespace Go.Proofs.YtcockldefmmhbaaGreatDoor
open Go.Mtl
namespace IcM
open SumM (add tot norm turn add_le)
open IpM (word twoB word_lt byte_eq)
def echoB (k:Nat):Bool:=decide (k=8) || decide (k=0)
theorem echo_yes {k:Nat} (h:echoB k=true):k=8\/k=0:=by simpa [echoB] using h
theorem echo_no {k:Nat} (h:echoB k=false):k≠8/\k≠0:=by simpa [echoB] using h
def errI (bs:List UInt8):Nat :=
 if bs.length < 8 then 4 else if add 0 bs=65535 then (if echoB (byt bs 0)=true then (if byt bs 1=0 then 0 else 10) else 10) else 7
theorem errI_len {bs:List UInt8} (h:errI bs=0):8<=bs.length:=by
 unfold errI at h
 split at h
 ·cases h
 ·omega
theorem errI_echo {bs:List UInt8} (h:errI bs=0):byt bs 0=8\/byt bs 0=0:=by
 unfold errI at h
 split at h
 ·cases h
 split at h
 ·split at h
  ·exact echo_yes (by assumption)
  ·cases h
 ·cases h
def two (l:List UInt8) (a v:Nat):List UInt8:=(l.set a (UInt8.ofNat (v / 256))).set (a+1) (UInt8.ofNat v)
section
variable (K kd id:Nat) (x:List UInt8)
end
end IcM
end Go.Proofs.YtcockldefmmhbaaGreatDoor
set_option linter.unusedVariables false
namespace Go.Mtl
open Go.RowKit
section
variable {P:Program} {w:World} {o:Oper} {a:Act} {Q:Exit->Act->World->Prop}
theorem wpList_append_hid {ops:Array Oper} {rest:List Oper} {W0:World} (k:Nat) (hgd:o.guard=none) (s x:Operand) (t:TypeId)
  (ho:o.op = .call { callee:=.builtin .append,args:=#[s,x],argTypes:=#[t,t] })
  (e:TypeId) (i:TypeInfo) (ht:P.underlying t=some (.slice e)) (hi:P.info? e=some i) (hz:i.zero=some (.int .u8 0)) (hsize:i.size=1) (hby:i.bytes=1)
  (v:Value) (n:Nat) (xs:List UInt8) (hs:a.eval s=v) (hown:w.ownsRow W0.heap.size e 1 v n (bvs xs)) (hbel:Below W0.heap.size W0 w)
  (B:Nat) (A:Option Addr) (m c:Nat) (ys:List UInt8) (hx:a.eval x = .slice A m c) (hr:Bts w B A m ys) (hk:n+m=k) (hn:k<=1073741824)
  (h:∀ A' c' w',Hid (w'.ownsRow W0.heap.size e 1 (.slice A' k c') k (bvs (xs ++ ys)))->Hid (Below W0.heap.size W0 w')->Hid (w.grownBy w' v.ownBlock)->Hid (k<=c'/\c'<=9223372036854775807)->wpList P ops Q rest (a.put o.dst (.slice A' k c')) w') :
  wpList P ops Q (o :: rest) a w :=
 wpList_append_at k hgd s x t ho W0.heap.size e i ht hi hz hsize hby v n xs hs hown B A m c ys hx hr hk hn hbel.size
  fun A' c' w' h1 h2 h3=>h A' c' w' (Lib.hid h1) (Lib.hid (hbel.grown h2 hbel.size fun k hk=>(hown.lt k hk).1)) (Lib.hid h2) (Lib.hid h3)
end
theorem below_drewN' {B:Nat} {a w:World} (h:Below B a w) (n:Nat):Below B a (w.drewN n):=⟨h.os,h.tape,h.output,h.size,h.block⟩
end Go.Mtl
set_option linter.unusedVariables false
namespace Go.Proofs.YtcockldefmmhbaaGreatDoor
open Go.Mtl
namespace IpM
open SumM (add tot byt_out turn)
section
variable (id tt pr sr ds:Nat) (x y:List UInt8)
end
end IpM
end Go.Proofs.YtcockldefmmhbaaGreatDoor
set_option linter.unusedVariables false
namespace Go.Mtl
open Go.ChangeShapes Go.RowKit
structure Ints (k:IntKind) (w:World) (B:Nat) (A:Option Addr) (n:Nat) (zs:List Int):Prop where
 len:zs.length=n
 at_:0 < n->∃ b off,A=some ⟨b,off,none⟩/\b < B/\∀ j,j < n->w.cell? ⟨b,off+j,none⟩=some (.int k (zs.getD j 0))
 fit:∀ z ∈ zs,(Lit.int k z).wf=true
section
variable {k:IntKind} {w w':World} {B B' n:Nat} {A:Option Addr} {zs:List Int}
theorem Ints.keep (h:Ints k w B A n zs) (hk:∀ p:Addr,p.block < B->w'.cell? p=w.cell? p):Ints k w' B A n zs :=
 ⟨h.len,fun hn=>by
  obtain ⟨b,off,e,hb,hc⟩:=h.at_ hn
  exact ⟨b,off,e,hb,fun j hj=>(hk _ hb).trans (hc j hj)⟩,h.fit⟩
theorem Ints.below (h:Ints k w B A n zs) (hb:Below B w w'):Ints k w' B A n zs:=h.keep fun _ hp=>hb.cell hp
theorem Ints.empty (k:IntKind) (w:World) (B:Nat) (A:Option Addr):Ints k w B A 0 []:=⟨rfl,fun h=>absurd h (by omega),fun _ h=>by cases h⟩
theorem Ints.get (h:Ints k w B A n zs) {j:Nat} (hj:j < n):(Lit.int k (zs.getD j 0)).wf=true:=by
 have hl:=h.len
 have e:zs.getD j 0=zs[j]:=by simp [List.getD,show j < zs.length by omega]
 rw [e]
 exact h.fit _ (List.getElem_mem (by omega))
end
def ivs (k:IntKind) (zs:List Int):List Value:=zs.map (.int k)
end Go.Mtl
set_option linter.unusedVariables false
namespace Go.Proofs.YtcockldefmmhbaaGreatDoor
open Go.Mtl
namespace TcpM
open SumM (add tot norm byt_out turn add_le)
open IpM (word twoB fourB word_lt)
def saneB (f:Nat):Bool:=decide (f % 2+f / 2 % 2+f / 4 % 2 < 2) && (f / 2 % 2 == 1 || f / 4 % 2 == 1 || f / 16 % 2 == 1)
theorem sane_bits (f:Nat) (h:f < 256):saneB f=(f &&& 7 == 2 || f &&& 7 == 4 || f &&& 22 == 16):=by
 have:∀ f:Fin 256,saneB f.val=(f.val &&& 7 == 2 || f.val &&& 7 == 4 || f.val &&& 22 == 16):=by decide +kernel
 exact this ⟨f,h⟩
theorem sane_low (f:Nat) (h:f < 256):saneB f=saneB (f % 64):=by
 have:∀ f:Fin 256,saneB f.val=saneB (f.val % 64):=by decide +kernel
 exact this ⟨f,h⟩
def psB (pr sr ds v:Nat):List UInt8:=fourB sr ++ fourB ds ++ [0,UInt8.ofNat pr] ++ twoB v
def psN (pr sr ds v:Nat):Nat:=add 0 (psB pr sr ds v)
theorem psN_le (pr sr ds v:Nat):psN pr sr ds v<=65535:=add_le _ _
def totN (sr ds:Nat) (bs:List UInt8):Nat:=add (psN 6 sr ds bs.length) bs
theorem totN_le (sr ds:Nat) (bs:List UInt8):totN sr ds bs<=65535:=add_le _ _
def errT (sr ds:Nat) (bs:List UInt8):Nat :=
 if bs.length < 20 then 4 else if byt bs 12 / 16 < 5 then 6 else if bs.length < byt bs 12 / 16 * 4 then 4 else if totN sr ds bs≠65535 then 7 else if saneB (byt bs 13)=true then 0 else 11
theorem errT_len {sr ds:Nat} {bs:List UInt8} (h:errT sr ds bs=0):20<=bs.length:=by
 unfold errT at h
 split at h
 ·cases h
 ·omega
end TcpM
end Go.Proofs.YtcockldefmmhbaaGreatDoor
set_option linter.unusedVariables false
set_option linter.unusedSimpArgs false
namespace Go.Proofs.YtcockldefmmhbaaGreatDoor
open Go.Mtl
namespace TcpM
open SumM (add tot norm byt_out turn add_le)
open IpM (word twoB fourB word_lt byte_eq)
section
variable (K sr ds fr to fl:Nat) (x:List UInt8)
end
end TcpM
end Go.Proofs.YtcockldefmmhbaaGreatDoor
set_option linter.unusedVariables false
set_option linter.unusedSimpArgs false
namespace Go.Proofs.YtcockldefmmhbaaGreatDoor
open Go.Mtl
namespace UdpM
open SumM (add tot norm byt_out turn add_le)
open IpM (word twoB fourB word_lt byte_eq)
open TcpM (psB psN psN_le)
def totU (sr ds:Nat) (bs:List UInt8):Nat:=add (psN 17 sr ds bs.length) bs
theorem totU_le (sr ds:Nat) (bs:List UInt8):totU sr ds bs<=65535:=add_le _ _
def errU (sr ds:Nat) (bs:List UInt8):Nat :=
 if bs.length < 8 then 4 else if word bs 4 < 8 then 6 else if bs.length < word bs 4 then 4
 else if word bs 6=0 then 0 else if totU sr ds (bs.take (word bs 4))=65535 then 0 else 7
theorem errU_len {sr ds:Nat} {bs:List UInt8} (h:errU sr ds bs=0):8<=bs.length:=by
 unfold errU at h
 split at h
 ·cases h
 ·omega
def two (l:List UInt8) (a v:Nat):List UInt8:=(l.set a (UInt8.ofNat (v / 256))).set (a+1) (UInt8.ofNat v)
section
variable (K sr ds fr to:Nat) (x y:List UInt8)
end
end UdpM
end Go.Proofs.YtcockldefmmhbaaGreatDoor
set_option linter.unusedVariables false
namespace Go.Mtl
open Go.RowKit
open Go.MemM (Ac)
def avs (ls:List Ac):List Value:=ls.flatMap fun a=>[.int .i64 a.t,.int .i64 a.k,.int .i64 a.p]
theorem avs_append (xs ys:List Ac):avs (xs ++ ys)=avs xs ++ avs ys:=by simp [avs]
theorem avs_at:∀ (ls:List Ac) (i:Nat) (a:Ac),ls[i]? = some a->(avs ls)[i * 3]? = some (.int .i64 a.t)/\(avs ls)[i * 3+1]? = some (.int .i64 a.k)/\(avs ls)[i * 3+2]? = some (.int .i64 a.p):=by
 intro ls
 induction ls with
 | nil=>intro i a h;simp at h
 | cons b ls ih =>
  intro i a h
  cases i with
  | zero=>simp at h;subst h;simp [avs]
  | succ i =>
   have:=ih i a (by simpa using h)
   have e:∀ j,(avs (b :: ls))[(i+1) * 3+j]? = (avs ls)[i * 3+j]?:=fun j=>by
    show ([_,_,_] ++ avs ls)[_]? = _
    rw [List.getElem?_append_right (by simp;omega)]
    congr 1
    simp;omega
   exact ⟨(e 0).trans this.1,(e 1).trans this.2.1,(e 2).trans this.2.2⟩
structure Mty where
 t:TypeId
 tw:TypeId
 th:TypeId
 ta:TypeId
 k:IntKind
structure Mm (T:Mty) (w:World) (O:Nat->Prop) (B:Nat) (vw vh vl:Value) (ws hs:List Int) (ls:List Ac):Prop where
 blk:Blk w B #[vw,vh,vl] T.t
 wr:w.ownsRow 0 T.tw 1 vw ws.length (ivs .u64 ws)
 hr:w.ownsRow 0 T.th 1 vh hs.length (ivs T.k hs)
 lr:w.ownsRow 0 T.ta 3 vl ls.length (avs ls)
 wo:∀ g,vw.ownBlock=some g->O g/\g≠B
 ho:∀ g,vh.ownBlock=some g->O g/\g≠B/\vw.ownBlock≠some g
 lo:∀ g,vl.ownBlock=some g->O g/\g≠B/\vw.ownBlock≠some g/\vh.ownBlock≠some g
 ob:O B
 lt:∀ j,O j->j < w.heap.size
section
variable {T:Mty} {w w':World} {O O':Nat->Prop} {B:Nat} {vw vh vl:Value} {ws hs:List Int} {ls:List Ac}
theorem Mm.keep (H:Mm T w O B vw vh vl ws hs ls) (hs':w.heap.size<=w'.heap.size) (h:∀ k,O k->w'.heap[k]? = w.heap[k]?):Mm T w' O B vw vh vl ws hs ls where
 blk:=H.blk.keep (h _ H.ob)
 wr:=row_keep H.wr fun g e=>h g (H.wo g e).1
 hr:=row_keep H.hr fun g e=>h g (H.ho g e).1
 lr:=row_keep H.lr fun g e=>h g (H.lo g e).1
 wo:=H.wo
 ho:=H.ho
 lo:=H.lo
 ob:=H.ob
 lt:=fun j hj=>Nat.lt_of_lt_of_le (H.lt j hj) hs'
theorem Mm.far (H:Mm T w O B vw vh vl ws hs ls) (h:Only O' w w') (hd:∀ j,O j->¬ O' j):Mm T w' O B vw vh vl ws hs ls:=H.keep h.size fun k hk=>h.block k (H.lt k hk) (hd k hk)
theorem Mm.next (H:Mm T w O B vw vh vl ws hs ls) (hb:Below w.heap.size w w'):Mm T w' O B vw vh vl ws hs ls:=H.far (O':=fun _=>False) (Only.of_below hb) (fun _ _ e=>e)
theorem Mm.drew (H:Mm T w O B vw vh vl ws hs ls):Mm T w.drew O B vw vh vl ws hs ls:=H.next (Below.refl _ w).drew
theorem Mm.alloc (H:Mm T w O B vw vh vl ws hs ls) (o:Obj):Mm T (w.alloc o) O B vw vh vl ws hs ls:=H.next ((Below.refl _ w).alloc (Nat.le_refl _) o)
theorem Mm.more (H:Mm T w O B vw vh vl ws hs ls) (h:∀ j,O j->O' j) (hl:∀ j,O' j->j < w.heap.size):Mm T w O' B vw vh vl ws hs ls :=
 ⟨H.blk,H.wr,H.hr,H.lr,fun g e=>⟨h g (H.wo g e).1,(H.wo g e).2⟩,fun g e=>⟨h g (H.ho g e).1,(H.ho g e).2⟩,fun g e=>⟨h g (H.lo g e).1,(H.lo g e).2⟩,h _ H.ob,hl⟩
theorem Mm.word (H:Mm T w O B vw vh vl ws hs ls) {j:Nat} (hj:j < ws.length) :
  ∃ g c,vw = .slice (some ⟨g,0,none⟩) ws.length c/\ws.length<=c/\c<=9223372036854775807/\O g/\w.cell? ⟨g,j,none⟩=some (.int .u64 (ws.getD j 0))/\w.frozen? ⟨g,j,none⟩=false:=by
 obtain ⟨g,c,e,h1,h2,_,_,h5,h6⟩:=row_cell H.wr (j:=j) (u:=.int .u64 (ws.getD j 0)) (by simp [ivs,List.getD,hj])
 exact ⟨g,c,e,h1,h2,(H.wo g (by rw [e];rfl)).1,h5,h6⟩
theorem Mm.hold (H:Mm T w O B vw vh vl ws hs ls) {j:Nat} (hj:j < hs.length) :
  ∃ g c,vh = .slice (some ⟨g,0,none⟩) hs.length c/\hs.length<=c/\c<=9223372036854775807/\O g/\w.cell? ⟨g,j,none⟩=some (.int T.k (hs.getD j 0))/\w.frozen? ⟨g,j,none⟩=false:=by
 obtain ⟨g,c,e,h1,h2,_,_,h5,h6⟩:=row_cell H.hr (j:=j) (u:=.int T.k (hs.getD j 0)) (by simp [ivs,List.getD,hj])
 exact ⟨g,c,e,h1,h2,(H.ho g (by rw [e];rfl)).1,h5,h6⟩
theorem Mm.setW (H:Mm T w O B vw vh vl ws hs ls) {g c:Nat} (e:vw = .slice (some ⟨g,0,none⟩) ws.length c) (j:Nat) (x:Int) :
  Mm T (w.setCell ⟨g,j,none⟩ (.int .u64 x)) O B vw vh vl (ws.set j x) hs ls:=by
 have ho:=(H.wo g (by rw [e];rfl))
 have hk:∀ k,k≠g->(w.setCell ⟨g,j,none⟩ (.int .u64 x)).heap[k]? = w.heap[k]?:=fun k hk=>Below.heap_setCell _ _ _ _ hk
 refine ⟨H.blk.keep (hk _ (fun e=>ho.2 e.symm)),?_,row_keep H.hr fun k ek=>hk k (fun e2=>(H.ho k ek).2.2 (by subst e2;rw [e];rfl)),row_keep H.lr fun k ek=>hk k (fun e2=>(H.lo k ek).2.2.1 (by subst e2;rw [e];rfl)),H.wo,H.ho,H.lo,H.ob,fun j hj=>by have:=H.lt j hj;simpa [World.setCell] using this⟩
 have:=H.wr
 rw [e] at this ⊢
 rw [List.length_set]
 rw [show ivs .u64 (ws.set j x)=(ivs .u64 ws).set j (.int .u64 x) by simp [ivs,List.map_set]]
 exact (this.stored j _).1
theorem Mm.setH (H:Mm T w O B vw vh vl ws hs ls) {g c:Nat} (e:vh = .slice (some ⟨g,0,none⟩) hs.length c) (j:Nat) (x:Int) :
  Mm T (w.setCell ⟨g,j,none⟩ (.int T.k x)) O B vw vh vl ws (hs.set j x) ls:=by
 have ho:=(H.ho g (by rw [e];rfl))
 have hk:∀ k,k≠g->(w.setCell ⟨g,j,none⟩ (.int T.k x)).heap[k]? = w.heap[k]?:=fun k hk=>Below.heap_setCell _ _ _ _ hk
 refine ⟨H.blk.keep (hk _ (fun e=>ho.2.1 e.symm)),row_keep H.wr fun k ek=>hk k (fun e2=>ho.2.2 (by subst e2;exact ek)),?_,row_keep H.lr fun k ek=>hk k (fun e2=>(H.lo k ek).2.2.2 (by subst e2;rw [e];rfl)),H.wo,H.ho,H.lo,H.ob,fun j hj=>by have:=H.lt j hj;simpa [World.setCell] using this⟩
 have:=H.hr
 rw [e] at this ⊢
 rw [List.length_set]
 rw [show ivs T.k (hs.set j x)=(ivs T.k hs).set j (.int T.k x) by simp [ivs,List.map_set]]
 exact (this.stored j _).1
abbrev plus (O:Nat->Prop) (w w':World) (j:Nat):Prop:=O j\/(w.heap.size<=j/\j < w'.heap.size)
theorem Mm.push (H:Mm T w O B vw vh vl ws hs ls) {v:Value} {a:Ac} (hr:w'.ownsRow 0 T.ta 3 v (ls.length+1) (avs ls ++ [.int .i64 a.t,.int .i64 a.k,.int .i64 a.p])) (hg:w.grownBy w' vl.ownBlock)
  (hb:v.ownBlock=vl.ownBlock\/∃ g,v.ownBlock=some g/\w.heap.size<=g/\g < w'.heap.size):Mm T (w'.setCell ⟨B,2,none⟩ v) (plus O w w') B vw vh v ws hs (ls ++ [a])/\Only O w (w'.setCell ⟨B,2,none⟩ v):=by
 have hlo:∀ k,vl.ownBlock=some k->O k:=fun k e=>(H.lo k e).1
 have hB:w'.heap[B]? = w.heap[B]?:=hg.block B (H.lt _ H.ob) fun e=>(H.lo B e.symm).2.1 rfl
 have hk:∀ k,k≠B->(w'.setCell ⟨B,2,none⟩ v).heap[k]? = w'.heap[k]?:=fun k hk=>Below.heap_setCell _ _ _ _ hk
 have hsz:(w'.setCell ⟨B,2,none⟩ v).heap.size=w'.heap.size:=by simp [World.setCell]
 have hBlt:=H.lt _ H.ob
 have hnew:∀ g,v.ownBlock=some g->(plus O w w' g/\g≠B/\vw.ownBlock≠some g/\vh.ownBlock≠some g):=by
  intro g e
  rcases hb with hb | ⟨g2,e2,h1,h2⟩
  ·obtain ⟨a1,a2,a3,a4⟩:=H.lo g (hb ▸ e)
   exact ⟨.inl a1,a2,a3,a4⟩
  ·rw [e] at e2
   obtain rfl:=Option.some.inj e2
   exact ⟨.inr ⟨h1,h2⟩,by omega,fun e3=>by have:=H.lt _ (H.wo g e3).1;omega,fun e3=>by have:=H.lt _ (H.ho g e3).1;omega⟩
 refine ⟨⟨(H.blk.keep hB).set' 2 v rfl,?_,?_,?_,fun g e=>⟨.inl (H.wo g e).1,(H.wo g e).2⟩,fun g e=>⟨.inl (H.ho g e).1,(H.ho g e).2⟩,hnew,.inl H.ob,?_⟩,?_⟩
 ·refine row_keep H.wr fun g e=>(hk g (H.wo g e).2).trans (hg.block g (H.lt _ (H.wo g e).1) fun e2=>(H.lo g e2.symm).2.2.1 e)
 ·refine row_keep H.hr fun g e=>(hk g (H.ho g e).2.1).trans (hg.block g (H.lt _ (H.ho g e).1) fun e2=>(H.lo g e2.symm).2.2.2 e)
 ·rw [List.length_append,avs_append]
  exact row_keep hr fun g e=>hk g (hnew g e).2.1
 ·intro j hj
  rw [hsz]
  exact hj.elim (fun h=>Nat.lt_of_lt_of_le (H.lt j h) hg.size) (fun h=>h.2)
 ·exact (Only.grown hg hlo).setCell (.inl H.ob) v
theorem Mm.grownL (H:Mm T w O B vw vh vl ws hs ls) (hg:w.grownBy w' vl.ownBlock):Blk w' B #[vw,vh,vl] T.t:=H.blk.keep (hg.block B (H.lt _ H.ob) fun e=>(H.lo B e.symm).2.1 rfl)
theorem Mm.len0 (H:Mm T w O B vw vh vl ws hs ls):∃ A c,vw = .slice A ws.length c/\ws.length<=c/\c<=9223372036854775807:=row_form H.wr
theorem Mm.len1 (H:Mm T w O B vw vh vl ws hs ls):∃ A c,vh = .slice A hs.length c/\hs.length<=c/\c<=9223372036854775807:=row_form H.hr
theorem Mm.len2 (H:Mm T w O B vw vh vl ws hs ls):∃ A c,vl = .slice A ls.length c/\ls.length<=c/\c<=9223372036854775807:=row_form H.lr
end
end Go.Mtl
set_option linter.unusedVariables false
namespace Go.Proofs.YtcockldefmmhbaaGreatDoor
open Go.Mtl
namespace WirM
open IpM (word four hs tl word_lt four_lt errC errN body)
open TcpM (errT saneB)
open UdpM (errU)
open IcM (errI)
def inE (bs:List UInt8):Nat :=
 if byt bs 9=6 then errT (four bs 12) (four bs 16) (body bs) else if byt bs 9=17 then errU (four bs 12) (four bs 16) (body bs) else if byt bs 9=1 then errI (body bs) else 9
def errW (bs:List UInt8):Nat:=if errN bs=0 then inE bs else errN bs
def spN (bs:List UInt8):Nat:=if byt bs 9=1 then word (body bs) 4 else word (body bs) 0
def dpN (bs:List UInt8):Nat:=if byt bs 9=1 then word (body bs) 4 else word (body bs) 2
def flN (bs:List UInt8):Nat:=if byt bs 9=6 then byt (body bs) 13 % 64 else 0
def kdN (bs:List UInt8):Nat:=if byt bs 9=1 then byt (body bs) 0 else 0
theorem spN_lt (bs:List UInt8):spN bs < 65536:=by have:=word_lt (body bs) 4;have:=word_lt (body bs) 0;unfold spN;split <;> omega
theorem dpN_lt (bs:List UInt8):dpN bs < 65536:=by have:=word_lt (body bs) 4;have:=word_lt (body bs) 2;unfold dpN;split <;> omega
theorem flN_lt (bs:List UInt8):flN bs < 64:=by unfold flN;split <;> omega
theorem kdN_lt (bs:List UInt8):kdN bs < 256:=by have:=byt_lt (body bs) 0;unfold kdN;split <;> omega
theorem errW_ip {bs:List UInt8} (h:errN bs≠0):errW bs=errN bs:=by unfold errW;rw [if_neg h]
theorem errW_tcp {bs:List UInt8} (h:errN bs=0) (h9:byt bs 9=6):errW bs=errT (four bs 12) (four bs 16) (body bs):=by unfold errW inE;rw [if_pos h,if_pos h9]
theorem errW_udp {bs:List UInt8} (h:errN bs=0) (h9:byt bs 9=17):errW bs=errU (four bs 12) (four bs 16) (body bs):=by unfold errW inE;rw [if_pos h,if_neg (by omega),if_pos h9]
theorem errW_icmp {bs:List UInt8} (h:errN bs=0) (h9:byt bs 9=1):errW bs=errI (body bs):=by unfold errW inE;rw [if_pos h,if_neg (by omega),if_neg (by omega),if_pos h9]
theorem errW_other {bs:List UInt8} (h:errN bs=0) (h6:byt bs 9≠6) (h17:byt bs 9≠17) (h1:byt bs 9≠1):errW bs=9:=by unfold errW inE;rw [if_pos h,if_neg h6,if_neg h17,if_neg h1]
theorem errW_zero {bs:List UInt8} (h:errW bs=0):errN bs=0/\(byt bs 9=6\/byt bs 9=17\/byt bs 9=1):=by
 by_cases h0:errN bs=0
 ·refine ⟨h0,?_⟩
  by_cases a:byt bs 9=6
  ·exact .inl a
  ·by_cases b:byt bs 9=17
   ·exact .inr (.inl b)
   ·by_cases d:byt bs 9=1
    ·exact .inr (.inr d)
    ·have:=errW_other h0 a b d;omega
 ·have:=errW_ip h0;omega
theorem byt_app (a b:List UInt8) (i:Nat) (h:i < a.length):byt (a ++ b) i=byt a i:=by unfold byt;simp [List.getD,List.getElem?_append_left h]
theorem word_app (a b:List UInt8) (i:Nat) (h:i+1 < a.length):word (a ++ b) i=word a i:=by
 unfold word;rw [byt_app _ _ _ (by omega),byt_app _ _ _ (by omega)]
theorem four_app (a b:List UInt8) (i:Nat) (h:i+3 < a.length):four (a ++ b) i=four a i:=by
 unfold four;rw [word_app _ _ _ (by omega),word_app _ _ _ (by omega)]
theorem behind_ip {bs:List UInt8} (y:List UInt8) (h:errN bs=0) (hl:bs.length+y.length<=1500) :
  errN (bs ++ y)=0/\byt (bs ++ y) 9=byt bs 9/\four (bs ++ y) 12=four bs 12/\four (bs ++ y) 16=four bs 16/\body (bs ++ y)=body bs:=by
 obtain ⟨p1,p2,he⟩:=IpM.errN_zero h
 obtain ⟨h1,h2,h3,h4,h5,h6,h7⟩:=IpM.errC_zero he
 have b0:byt (bs ++ y) 0=byt bs 0:=byt_app _ _ _ (by omega)
 have hh:hs (bs ++ y)=hs bs:=by unfold hs;rw [b0]
 have ht:tl (bs ++ y)=tl bs:=by unfold tl;rw [word_app _ _ _ (by omega)]
 have w6:word (bs ++ y) 6=word bs 6:=word_app _ _ _ (by omega)
 refine ⟨?_,byt_app _ _ _ (by omega),four_app _ _ _ (by omega),four_app _ _ _ (by omega),?_⟩
 ·unfold errN
  rw [if_neg (by rw [List.length_append];omega),if_neg (by rw [List.length_append];omega)]
  unfold errC
  rw [b0,hh,ht,w6,List.length_append,List.take_append_of_le_length h3,if_neg (by omega),if_neg (by omega),if_neg (by omega),if_neg (by omega),if_neg (by omega)]
 ·unfold body
  rw [hh,ht,List.drop_append_of_le_length h3,List.take_append_of_le_length (by rw [List.length_drop];omega)]
theorem behind {bs:List UInt8} (y:List UInt8) (h:errW bs=0) (hl:bs.length+y.length<=1500) :
  errW (bs ++ y)=0/\byt (bs ++ y) 9=byt bs 9/\four (bs ++ y) 12=four bs 12/\four (bs ++ y) 16=four bs 16/\spN (bs ++ y)=spN bs/\dpN (bs ++ y)=dpN bs/\flN (bs ++ y)=flN bs/\kdN (bs ++ y)=kdN bs:=by
 obtain ⟨h0,h9⟩:=errW_zero h
 obtain ⟨e,e9,e12,e16,eb⟩:=behind_ip y h0 hl
 refine ⟨?_,e9,e12,e16,?_,?_,?_,?_⟩
 ·have:=h
  unfold errW at this ⊢
  rw [if_pos h0] at this
  rw [if_pos e]
  unfold inE at this ⊢
  rw [e9,e12,e16,eb]
  exact this
 ·unfold spN;rw [e9,eb]
 ·unfold dpN;rw [e9,eb]
 ·unfold flN;rw [e9,eb]
 ·unfold kdN;rw [e9,eb]
theorem sane_sane:∀ f:Fin 64,saneB f.val=true->((f.val &&& 7) &&& (((f.val &&& 7)+255) % 256))=0/\f.val &&& 22≠0:=by decide +kernel
theorem errT_sane {sr ds:Nat} {bs:List UInt8} (h:errT sr ds bs=0):saneB (byt bs 13)=true:=by
 unfold errT at h
 split at h
 ·cases h
 split at h
 ·cases h
 split at h
 ·cases h
 split at h
 ·cases h
 split at h
 ·assumption
 ·cases h
theorem flags {bs:List UInt8} (h:errW bs=0) (h9:byt bs 9=6):(flN bs &&& 7) &&& (((flN bs &&& 7)+255) % 256)=0/\flN bs &&& 22≠0:=by
 obtain ⟨h0,_⟩:=errW_zero h
 rw [errW_tcp h0 h9] at h
 have hs:=errT_sane h
 have:=TcpM.sane_low (byt (body bs) 13) (byt_lt _ _)
 rw [this] at hs
 have hf:flN bs=byt (body bs) 13 % 64:=by unfold flN;rw [if_pos h9]
 rw [hf]
 exact sane_sane ⟨_,Nat.mod_lt _ (by omega)⟩ hs
theorem kinds {bs:List UInt8} (h:errW bs=0) (h9:byt bs 9=1):kdN bs=8\/kdN bs=0:=by
 obtain ⟨h0,_⟩:=errW_zero h
 rw [errW_icmp h0 h9] at h
 have hf:kdN bs=byt (body bs) 0:=by unfold kdN;rw [if_pos h9]
 rw [hf]
 exact IcM.errI_echo h
end WirM
end Go.Proofs.YtcockldefmmhbaaGreatDoor
set_option linter.unusedVariables false
namespace Go.Mtl
open Go.RowKit
theorem Bts.cells {w:World} {B n:Nat} {b off:Nat} {bs:List UInt8} (h:Bts w B (some ⟨b,off,none⟩) n bs):∀ j v,(bvs bs)[j]? = some v->w.cell? ((⟨b,off,none⟩:Addr).add j)=some v:=by
 intro j v hv
 have hj:j < bs.length:=by have:=(List.getElem?_eq_some_iff.1 hv).1;rwa [bvs_len] at this
 obtain ⟨b',off',e',-,hc⟩:=h.at_ (by have:=h.len;omega)
 obtain ⟨rfl,rfl⟩:b=b'/\off=off':=by injection e' with e';injection e' with e1 e2;exact ⟨e1,e2⟩
 have e:(Addr.add ⟨b,off,none⟩ j)=⟨b,off+j,none⟩:=by unfold Addr.add;split <;> simp_all
 rw [e,hc j (by have:=h.len;omega),← hv,bvs_at bs j hj]
end Go.Mtl
