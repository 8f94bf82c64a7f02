/- Several texts of this proof in one file, each in its own namespace. -/
import Derived.WalkKit
import Derived.ProofKit
import Derived.Below
import Derived.OpenShut
import Derived.Deep.AppendLies
import Derived.Deep.Draws
import Derived.Lib.Hide
import Derived.Laws.Rows
import Derived.Maps.AppendAt
import Derived.Laws.OwnMore
set_option linter.unusedVariables false
namespace Go.Mtl
open Go.RowKit
def byt (bs:List UInt8) (i:Nat):Nat:=(bs.getD i 0).toNat
theorem byt_lt (bs:List UInt8) (i:Nat):byt bs i < 256:=(bs.getD i 0).toNat_lt
theorem byt_drop (bs:List UInt8) (i j:Nat):byt (bs.drop i) j=byt bs (i+j):=by simp [byt,List.getD,List.getElem?_drop]
theorem byt_take (bs:List UInt8) (m j:Nat) (h:j < m):byt (bs.take m) j=byt bs j:=by simp [byt,List.getD,h]
structure Bts (w:World) (B:Nat) (A:Option Addr) (n:Nat) (bs:List UInt8):Prop where
 len:bs.length=n
 at_:0 < n->∃ b off,A=some ⟨b,off,none⟩/\b < B/\∀ j,j < n->w.cell? ⟨b,off+j,none⟩=some (.int .u8 (byt bs j:Int))
section
variable {w w':World} {B B' n:Nat} {A:Option Addr} {bs:List UInt8}
theorem Bts.empty (w:World) (B:Nat) (A:Option Addr):Bts w B A 0 []:=⟨rfl,fun h=>absurd h (by omega)⟩
theorem Bts.keep (h:Bts w B A n bs) (hk:∀ p:Addr,p.block < B->w'.cell? p=w.cell? p):Bts w' B A n bs :=
 ⟨h.len,fun hn=>by
  obtain ⟨b,off,e,hb,hc⟩:=h.at_ hn
  exact ⟨b,off,e,hb,fun j hj=>(hk _ hb).trans (hc j hj)⟩⟩
theorem Bts.more (h:Bts w B A n bs) (hB:B<=B'):Bts w B' A n bs :=
 ⟨h.len,fun hn=>by
  obtain ⟨b,off,e,hb,hc⟩:=h.at_ hn
  exact ⟨b,off,e,by omega,hc⟩⟩
theorem Bts.below (h:Bts w B A n bs) (hb:Below B w w'):Bts w' B A n bs:=h.keep fun _ hp=>hb.cell hp
theorem Bts.drewN (h:Bts w B A n bs) (k:Nat):Bts (w.drewN k) B A n bs:=⟨h.len,h.at_⟩
theorem Bts.drew (h:Bts w B A n bs):Bts w.drew B A n bs:=⟨h.len,h.at_⟩
theorem Bts.alloc (h:Bts w B A n bs) (hB:B<=w.heap.size) (o:Obj):Bts (w.alloc o) B A n bs:=h.keep fun p hp=>World.cell?_alloc_lt w o p (by omega)
theorem Bts.setCell (h:Bts w B A n bs) {p:Addr} (hB:B<=p.block) (u:Value):Bts (w.setCell p u) B A n bs :=
 h.keep fun q hq=>World.cell?_setCell_other w p q u (fun e=>by subst e;omega)
theorem Bts.cut (h:Bts w B A n bs) (i m:Nat) (hm:0 < m) (hi:i+m<=n):∃ b off,A=some ⟨b,off,none⟩/\Bts w B (some ⟨b,off+i,none⟩) m ((bs.drop i).take m):=by
 obtain ⟨b,off,e,hb,hc⟩:=h.at_ (by omega)
 have hl:=h.len
 refine ⟨b,off,e,by simp;omega,fun _=>⟨b,off+i,rfl,hb,fun j hj=>?_⟩⟩
 rw [Nat.add_assoc,hc (i+j) (by omega)]
 rw [byt_take _ _ _ hj,byt_drop]
theorem bts_of_cells {x:Addr} {len:Nat} {zs:List Int} (hl:len<=zs.length) (hc:∀ i,i < zs.length->w.cell? (x.add i)=some (.int .u8 (zs.getD i 0)))
  (hz:∀ n ∈ zs,(Lit.int .u8 n).wf=true):∃ bs,Bts w w.heap.size (some x) len bs:=by
 refine ⟨(zs.take len).map fun z=>UInt8.ofNat z.toNat,by simp;omega,fun hn=>?_⟩
 obtain ⟨b,off,sp⟩:=x
 obtain rfl:sp=none:=by simpa [Addr.add] using World.cell?_spot (hc 0 (by omega))
 have hb:=World.block_lt_of_cell? _ _ (hc 0 (by omega))
 refine ⟨b,off,rfl,by simpa [Addr.add] using hb,fun j hj=>?_⟩
 have h1:=hc j (by omega)
 have h2:=bounds_u8 (hz zs[j] (List.getElem_mem (by omega)))
 have e:(Addr.add ⟨b,off,none⟩ j)=⟨b,off+j,none⟩:=by unfold Addr.add;split <;> simp_all
 rw [← e,h1]
 have hjl:j < zs.length:=by omega
 simp [byt,List.getD,hj,hjl]
 omega
def textOf (bs:List UInt8):ByteArray:=⟨bs.toArray⟩
theorem foldl_push (ns:List UInt8):∀ s:ByteArray,(ns.map fun c=>(c.toNat:Int)).foldl (fun r n=>r.push (UInt8.ofNat n.toNat)) s=⟨s.data ++ ns.toArray⟩:=by
 induction ns with
 | nil=>intro s;simp
 | cons c ns ih =>
  intro s
  rw [List.map_cons,List.foldl_cons,ih]
  simp [ByteArray.push]
theorem run_text {P:Program} (src dst e:TypeId) (hs:P.underlying src=some (.slice e)) (he:P.underlying e=some (.int .u8)) (hd:P.underlying dst=some .string)
  {c:Nat} (h:Bts w B A n bs):(convert src dst (.slice A n c)).run P w = .ok (.string (textOf bs)) w:=by
 rw [run_convert_bytes_string w src dst e A n c hs he hd]
 rcases Nat.eq_zero_or_pos n with h0 | h0
 ·subst h0
  have:bs=[]:=List.eq_nil_of_length_eq_zero h.len
  subst this
  rcases A with _ | a
  ·simp [Conv.bytesToString,Sem.run_pure];rfl
  ·have hl:(loadCells a 0).run P w = .ok (([]:List Int).map (Value.int .u8)).toArray w:=by simp [loadCells,loadCellsFrom,Sem.run_pure]
   rw [run_bytesToString w a 0 c [] hl];rfl
 ·obtain ⟨b,off,rfl,_,hc⟩:=h.at_ h0
  have hl:(loadCells ⟨b,off,none⟩ n).run P w = .ok ((bs.map fun c=>(c.toNat:Int)).map (Value.int .u8)).toArray w:=by
   have hlen:=h.len
   subst hlen
   have:=run_loadCells_list (P:=P) (w:=w) ⟨b,off,none⟩ ((bs.map fun c=>(c.toNat:Int)).map (Value.int .u8)) (by
    intro j v hv
    have hj:j < bs.length:=by have:=(List.getElem?_eq_some_iff.1 hv).1;simpa using this
    have e:(Addr.add ⟨b,off,none⟩ j)=⟨b,off+j,none⟩:=by unfold Addr.add;split <;> simp_all
    rw [e,hc j hj]
    rw [← hv]
    simp [byt,List.getD,hj])
   simpa using this
  rw [run_bytesToString w _ n c _ hl,foldl_push]
  simp [textOf]
end
def bvs (bs:List UInt8):List Value:=bs.map fun c=>.int .u8 (c.toNat:Int)
theorem bvs_len (bs:List UInt8):(bvs bs).length=bs.length:=by simp [bvs]
theorem bvs_at (bs:List UInt8) (j:Nat) (h:j < bs.length):(bvs bs)[j]? = some (.int .u8 (byt bs j:Int)):=by simp [bvs,byt,List.getD,h]
theorem bvs_snoc (bs:List UInt8) (c:UInt8):bvs bs ++ [.int .u8 (c.toNat:Int)]=bvs (bs ++ [c]):=by simp [bvs]
theorem bvs_set (bs:List UInt8) (j:Nat) (c:UInt8):(bvs bs).set j (.int .u8 (c.toNat:Int))=bvs (bs.set j c):=by simp [bvs,List.map_set]
theorem bvs_zeros (n:Nat):(madeCells (Value.int .u8 0).cells (n * 1)).toList=bvs (List.replicate n 0):=by
 apply List.ext_getElem?
 intro i
 by_cases h:i < n
 ·simp [madeCells,bvs,Value.cells,h,Nat.mod_one]
 ·simp [madeCells,bvs,h]
theorem byt_set (bs:List UInt8) (j k:Nat) (c:UInt8) (h:j < bs.length):byt (bs.set j c) k=if j=k then c.toNat else byt bs k:=by
 unfold byt
 simp only [List.getD,List.getElem?_set]
 split
 ·simp
 ·rfl
theorem eq_of_byt {a b:List UInt8} (hl:a.length=b.length) (h:∀ j,j < a.length->byt a j=byt b j):a=b:=by
 apply List.ext_getElem hl
 intro i h1 h2
 have:=h i h1
 unfold byt at this
 simp only [List.getD,List.getElem?_eq_getElem h1,List.getElem?_eq_getElem h2,Option.getD_some] at this
 exact UInt8.toNat_inj.1 this
theorem bts_of_own {w:World} {base e:Nat} {v:Value} {n c:Nat} {A:Option Addr} {bs:List UInt8} (h:w.ownsRow base e 1 v n (bvs bs)) (hv:v = .slice A n c):Bts w w.heap.size A n bs:=by
 subst hv
 have hl:bs.length=n:=by have:=h.1;rw [bvs_len] at this;omega
 refine ⟨hl,fun hn=>?_⟩
 obtain ⟨g,cap,hv,_,hlt⟩:=h.form hn
 have hA:A=some ⟨g,0,none⟩:=by injection hv
 subst hA
 refine ⟨g,0,rfl,hlt,fun j hj=>?_⟩
 have e:(Addr.add ⟨g,0,none⟩ j)=⟨g,0+j,none⟩:=by unfold Addr.add;split <;> simp_all
 have:=h.cells (g:=g) rfl j _ (bvs_at bs j (by omega))
 rw [← e];exact this
theorem wpList_append_byte {P:Program} (w0:World) {ops:Array Oper} {rest:List Oper} {o:Oper} {a:Act} {Q:Exit->Act->World->Prop} (hgd:o.guard=none) (s x:Operand) (t:TypeId)
  (ho:o.op = .call { callee:=.builtin .append,args:=#[s,x],argTypes:=#[t,t] })
  (base:Nat) (e:TypeId) (i:TypeInfo) (ht:P.underlying t=some (.slice e)) (hi:P.info? e=some i) (hz:i.zero=some (.int .u8 0)) (hsize:i.size=1) (hby:i.bytes=1)
  (v:Value) (n:Nat) (xs:List Value) (c:Int) (hs:a.eval s=v) (hown:w0.ownsRow base e 1 v n xs)
  (hx:a.eval x = .slice (some ⟨w0.heap.size,0,none⟩) 1 1) (hn:n<=1073741824) (hbase:base<=w0.heap.size)
  (h:∀ v' w',w'.ownsRow base e 1 v' (n+1) (xs ++ [.int .u8 c])->(w0.alloc (.cells #[.int .u8 c] e)).grownBy w' v.ownBlock->wpList P ops Q rest (a.put o.dst v') w') :
  wpList P ops Q (o :: rest) a (w0.alloc (.cells #[.int .u8 c] e)):=by
 refine wpList_append_own _ hgd s x t ho base e i (.int .u8 0) 1 1 ht hi hz hsize hby rfl (by omega) v n xs hs (hown.alloc _) ⟨w0.heap.size,0,none⟩ 1 1 [.int .u8 c] hx rfl ?_ ?_ (by unfold maxLen;omega) (by omega) (by simp;omega)
  (fun v' w' h1 h2 _=>h v' w' h1 h2)
 ·intro j u hu
  have hj:j=0:=by have:=(List.getElem?_eq_some_iff.1 hu).1;simpa using this
  subst hj
  simp at hu
  subst hu
  simp [Addr.add]
 ·intro u hu
  simp at hu
  subst hu
  rfl
end Go.Mtl
set_option linter.unusedVariables false
namespace Go.Proofs.YtcockldefmmhbaaGreatDoor
open Go.Mtl
namespace SumM
def part (i c:Nat):Nat:=if i % 2=0 then c * 256 else c
theorem part_even {i:Nat} (c:Nat) (h:i % 2=0):part i c=c * 256:=by unfold part;rw [if_pos h]
theorem part_odd {i:Nat} (c:Nat) (h:i % 2=1):part i c=c:=by unfold part;rw [if_neg (by omega)]
theorem part_le (i c:Nat) (h:c < 256):part i c<=65280:=by unfold part;split <;> omega
theorem part_zero (i:Nat):part i 0=0:=by unfold part;split <;> rfl
def tot (bs:List UInt8):Nat->Nat
 | 0=>0
 | k+1=>tot bs k+part k (byt bs k)
theorem tot_zero (bs:List UInt8):tot bs 0=0:=rfl
theorem tot_step (bs:List UInt8) (k:Nat):tot bs (k+1)=tot bs k+part k (byt bs k):=rfl
theorem byt_out (bs:List UInt8) (k:Nat) (h:bs.length<=k):byt bs k=0:=by
 unfold byt
 simp [List.getD,List.getElem?_eq_none h]
theorem tot_out (bs:List UInt8) (k:Nat) (h:bs.length<=k):tot bs k=tot bs bs.length:=by
 induction k with
 | zero=>rw [Nat.le_zero.1 h]
 | succ k ih =>
  by_cases e:bs.length<=k
  ·rw [tot_step,byt_out bs k e,part_zero,Nat.add_zero,ih e]
  ·rw [show bs.length=k+1 by omega]
def norm (n:Nat):Nat:=if n=0 then 0 else (n - 1) % 65535+1
theorem norm_le (n:Nat):norm n<=65535:=by unfold norm;split <;> omega
theorem norm_small (n:Nat) (h:n<=65535):norm n=n:=by unfold norm;split <;> omega
theorem norm_big (n:Nat) (h:65535 < n) (h2:n<=131070):norm n=n - 65535:=by unfold norm;split <;> omega
theorem norm_add (a b:Nat):norm (norm a+b)=norm (a+b):=by unfold norm;split <;> split <;> split <;> omega
def add (s:Nat) (bs:List UInt8):Nat:=norm (s+tot bs bs.length)
theorem add_le (s:Nat) (bs:List UInt8):add s bs<=65535:=norm_le _
def upto (s:Nat) (bs:List UInt8) (k:Nat):Nat:=norm (s+tot bs k)
theorem upto_zero (s:Nat) (bs:List UInt8) (h:s<=65535):upto s bs 0=s:=norm_small _ (by rw [tot_zero];omega)
theorem upto_le (s:Nat) (bs:List UInt8) (k:Nat):upto s bs k<=65535:=norm_le _
theorem upto_step (s:Nat) (bs:List UInt8) (k:Nat):norm (upto s bs k+part k (byt bs k))=upto s bs (k+1):=by
 unfold upto;rw [norm_add,tot_step,Nat.add_assoc]
theorem upto_done (s:Nat) (bs:List UInt8) (k:Nat) (h:bs.length<=k):upto s bs k=add s bs:=by
 unfold upto add;rw [tot_out bs k h]
def turn (bs:List UInt8) (j b:Nat):List UInt8:=bs.set j (UInt8.ofNat (byt bs j ^^^ 2 ^ b))
end SumM
end Go.Proofs.YtcockldefmmhbaaGreatDoor
set_option linter.unusedVariables false
namespace Go.Proofs.YtcockldefmmhbaaGreatDoor
open Go.Mtl
namespace IpM
open SumM (add tot byt_out)
def word (bs:List UInt8) (i:Nat):Nat:=byt bs i * 256+byt bs (i+1)
def four (bs:List UInt8) (i:Nat):Nat:=word bs i * 65536+word bs (i+2)
theorem word_lt (bs:List UInt8) (i:Nat):word bs i < 65536:=by have:=byt_lt bs i;have:=byt_lt bs (i+1);unfold word;omega
theorem four_lt (bs:List UInt8) (i:Nat):four bs i < 4294967296:=by have:=word_lt bs i;have:=word_lt bs (i+2);unfold four;omega
def hs (bs:List UInt8):Nat:=byt bs 0 % 16 * 4
def tl (bs:List UInt8):Nat:=word bs 2
theorem hs_le (bs:List UInt8):hs bs<=60:=by unfold hs;omega
theorem tl_lt (bs:List UInt8):tl bs < 65536:=word_lt _ _
def errC (bs:List UInt8):Nat :=
 if byt bs 0 / 16≠4 then 5 else if hs bs < 20 then 6 else if bs.length < hs bs\/tl bs < hs bs\/bs.length < tl bs then 4
 else if add 0 (bs.take (hs bs))≠65535 then 7 else if word bs 6 % 16384≠0 then 8 else 0
def errN (bs:List UInt8):Nat:=if 1500 < bs.length then 2 else if bs.length < 20 then 4 else errC bs
def body (bs:List UInt8):List UInt8:=(bs.drop (hs bs)).take (tl bs - hs bs)
theorem errC_zero {bs:List UInt8} (h:errC bs=0):byt bs 0 / 16=4/\20<=hs bs/\hs bs<=bs.length/\hs bs<=tl bs/\tl bs<=bs.length/\add 0 (bs.take (hs bs))=65535/\word bs 6 % 16384=0:=by
 unfold errC at h
 split at h
 ·cases h
 split at h
 ·cases h
 split at h
 ·cases h
 split at h
 ·cases h
 split at h
 ·cases h
 refine ⟨?_,?_,?_,?_,?_,?_,?_⟩ <;> first | omega | simp_all
theorem errN_zero {bs:List UInt8} (h:errN bs=0):bs.length<=1500/\20<=bs.length/\errC bs=0:=by
 unfold errN at h
 split at h
 ·cases h
 split at h
 ·cases h
 exact ⟨by omega,by omega,h⟩
theorem body_len {bs:List UInt8} (h:errC bs=0):(body bs).length=tl bs - hs bs:=by
 obtain ⟨_,_,h3,h4,h5,_⟩:=errC_zero h
 simp [body];omega
def twoB (n:Nat):List UInt8:=[UInt8.ofNat (n / 256),UInt8.ofNat n]
def fourB (n:Nat):List UInt8:=twoB (n / 65536) ++ twoB (n % 65536)
end IpM
end Go.Proofs.YtcockldefmmhbaaGreatDoor
set_option linter.unusedVariables false
namespace Go.Mtl
open Go.RowKit
def Blk (w:World) (g:Nat) (cs:Array Value) (t:TypeId):Prop:=w.heap[g]? = some (.cells cs t (0,0))
section
variable {w w':World} {g:Nat} {cs:Array Value} {t:TypeId}
theorem Blk.box (w:World) (cs:Array Value) (t:TypeId):Blk (w.alloc (.cells cs t)) w.heap.size cs t:=heap_alloc_new w _
theorem Blk.lt (H:Blk w g cs t):g < w.heap.size:=by
 rcases Nat.lt_or_ge g w.heap.size with hlt | hge
 ·exact hlt
 ·unfold Blk at H;rw [Array.getElem?_eq_none hge] at H;cases H
theorem Blk.keep (H:Blk w g cs t) (hk:w'.heap[g]? = w.heap[g]?):Blk w' g cs t:=hk.trans H
theorem Blk.next (H:Blk w g cs t) (hb:Below w.heap.size w w'):Blk w' g cs t:=H.keep (hb.block g H.lt)
theorem Blk.below {B:Nat} (H:Blk w g cs t) (hb:Below B w w') (hg:g < B):Blk w' g cs t:=H.keep (hb.block g hg)
theorem Blk.alloc (H:Blk w g cs t) (o:Obj):Blk (w.alloc o) g cs t:=H.next ((Below.refl _ _).alloc (Nat.le_refl _) o)
theorem Blk.drewN (H:Blk w g cs t) (k:Nat):Blk (w.drewN k) g cs t:=H
theorem Blk.drew (H:Blk w g cs t):Blk w.drew g cs t:=H
theorem Blk.other (H:Blk w g cs t) (k i:Nat) (hk:g≠k) (v:Value):Blk (w.setCell ⟨k,i,none⟩ v) g cs t:=H.keep (Below.heap_setCell _ _ _ _ hk)
theorem Blk.cell (H:Blk w g cs t) (i:Nat) (v:Value) (h:cs[i]? = some v):w.cell? ⟨g,i,none⟩=some v:=(cell_of_row w g i _ _ _ H).trans h
theorem Blk.frozen (H:Blk w g cs t) (i:Nat):w.frozen? ⟨g,i,none⟩=false:=frozen_of_row w g i _ _ H
theorem Blk.set (H:Blk w g cs t) (i:Nat) (v:Value):Blk (w.setCell ⟨g,i,none⟩ v) g (cs.setIfInBounds i v) t:=heap_setCell_same w g i _ _ v H
theorem Blk.set' (H:Blk w g cs t) (i:Nat) (v:Value) {cs':Array Value} (h:cs.setIfInBounds i v=cs'):Blk (w.setCell ⟨g,i,none⟩ v) g cs' t:=h ▸ H.set i v
theorem Blk.box1 (w:World) (o:Obj) (cs:Array Value) (t:TypeId):Blk ((w.alloc o).alloc (.cells cs t)) (w.heap.size+1) cs t:=by
 have:=Blk.box (w.alloc o) cs t
 rwa [World.size_alloc] at this
theorem _root_.Go.RowKit.Below.drews {B:Nat} {w w':World} (hb:Below B w w') (n:Nat):Below B w (w'.drewN n):=hb.trans ⟨rfl,rfl,rfl,Nat.le_refl _,fun _ _=>rfl⟩
end
end Go.Mtl
set_option linter.unusedVariables false
namespace Go.Mtl
open Go.RowKit
structure Only (O:Nat->Prop) (w w':World):Prop where
 os:w'.os=w.os
 tape:w'.tape=w.tape
 output:w'.output=w.output
 size:w.heap.size<=w'.heap.size
 block:∀ k,k < w.heap.size->¬ O k->w'.heap[k]? = w.heap[k]?
theorem Only.refl (O:Nat->Prop) (w:World):Only O w w:=⟨rfl,rfl,rfl,Nat.le_refl _,fun _ _ _=>rfl⟩
theorem Only.of_below {O:Nat->Prop} {w w':World} (h:Below w.heap.size w w'):Only O w w':=⟨h.os,h.tape,h.output,h.size,fun k hk _=>h.block k hk⟩
theorem Only.trans {O O':Nat->Prop} {a b c:World} (h:Only O a b) (k:Only O' b c) (hO:∀ j,O' j->O j\/a.heap.size<=j):Only O a c :=
 ⟨k.os.trans h.os,k.tape.trans h.tape,k.output.trans h.output,Nat.le_trans h.size k.size,fun j hj hn =>
  (k.block j (Nat.lt_of_lt_of_le hj h.size) (fun e=>(hO j e).elim hn (fun g=>by omega))).trans (h.block j hj hn)⟩
theorem Only.next {O:Nat->Prop} {a b c:World} (h:Only O a b) (hb:Below b.heap.size b c):Only O a c:=h.trans (O':=fun _=>False) (Only.of_below hb) (fun _ e=>e.elim)
theorem Only.mono {O O':Nat->Prop} {a b:World} (h:Only O a b) (hO:∀ j,O j->O' j):Only O' a b:=⟨h.os,h.tape,h.output,h.size,fun j hj hn=>h.block j hj (fun e=>hn (hO j e))⟩
theorem Only.below {O:Nat->Prop} {n:Nat} {w w':World} (h:Only O w w') (hO:∀ j,O j->n<=j) (hn:n<=w.heap.size):Below n w w' :=
 ⟨h.os,h.tape,h.output,h.size,fun k hk=>h.block k (by omega) (fun e=>by have:=hO k e;omega)⟩
theorem Only.setCell {O:Nat->Prop} {a w:World} (h:Only O a w) {p:Addr} (hp:O p.block\/a.heap.size<=p.block) (u:Value):Only O a (w.setCell p u) :=
 h.trans (O':=fun j=>j=p.block) ⟨rfl,rfl,rfl,by simp [World.setCell],fun k _ hn=>Below.heap_setCell _ _ _ _ hn⟩ (fun j e=>by subst e;exact hp)
theorem Only.alloc {O:Nat->Prop} {a w:World} (h:Only O a w) (o:Obj):Only O a (w.alloc o):=h.next ((Below.refl _ w).alloc (Nat.le_refl _) o)
theorem Only.cell {O:Nat->Prop} {w w':World} (h:Only O w w') {p:Addr} (hp:p.block < w.heap.size) (hn : ¬ O p.block):w'.cell? p=w.cell? p:=World.cell?_of_block (w:=w) (h.block p.block hp hn)
theorem Blk.only {O:Nat->Prop} {w w':World} {g:Nat} {cs:Array Value} {t:TypeId} (H:Blk w g cs t) (h:Only O w w') (hn : ¬ O g):Blk w' g cs t:=H.keep (h.block g H.lt hn)
theorem Only.grown {O:Nat->Prop} {w w':World} {row:Option Nat} (h:w.grownBy w' row) (hO:∀ k,row=some k->O k):Only O w w' :=
 ⟨h.os,h.tape,h.output,h.size,fun k hk hn=>h.block k hk fun e=>hn (hO k e.symm)⟩
section
variable {w w':World} {base e size n:Nat} {v:Value} {xs:List Value}
theorem row_keep (h:w.ownsRow base e size v n xs) (hk:∀ g,v.ownBlock=some g->w'.heap[g]? = w.heap[g]?):w'.ownsRow base e size v n xs:=by
 refine ⟨h.1,?_⟩
 rcases h.2 with ⟨rfl,h0⟩ | ⟨g,cap,cur,rfl,h2,h3,h4⟩
 ·exact .inl ⟨rfl,h0⟩
 ·exact .inr ⟨g,cap,cur,rfl,h2,(hk g rfl).trans h3,h4⟩
theorem row_form (h:w.ownsRow base e size v n xs):∃ A c,v = .slice A n c/\n<=c/\c<=9223372036854775807:=by
 rcases h.2 with ⟨rfl,rfl⟩ | ⟨g,cap,cur,rfl,h2,h3,h4,h5,_⟩
 ·exact ⟨none,0,rfl,Nat.le_refl _,by omega⟩
 ·exact ⟨_,cap,rfl,h4,by unfold maxLen at h5;omega⟩
theorem row_cell (h:w.ownsRow base e size v n xs) {j:Nat} {u:Value} (hu:xs[j]? = some u) :
  ∃ g c,v = .slice (some ⟨g,0,none⟩) n c/\n<=c/\c<=9223372036854775807/\base<=g/\g < w.heap.size/\w.cell? ⟨g,j,none⟩=some u/\w.frozen? ⟨g,j,none⟩=false:=by
 rcases h.2 with ⟨rfl,rfl⟩ | ⟨g,cap,cur,rfl,h2,h3,h4,h5,_⟩
 ·have:=(List.getElem?_eq_some_iff.1 hu).1
  have:=h.1
  omega
 ·refine ⟨g,cap,rfl,h4,by unfold maxLen at h5;omega,h2,(Array.getElem?_eq_some_iff.1 h3).1,?_,frozen_of_row w g j cur e h3⟩
  have:=h.cells (g:=g) rfl j u hu
  have e:(Addr.add ⟨g,0,none⟩ j)=⟨g,j,none⟩:=by unfold Addr.add;split <;> simp_all
  rwa [e] at this
theorem row_base {b2:Nat} (h:w.ownsRow base e size v n xs) (hb:∀ g,v.ownBlock=some g->b2<=g):w.ownsRow b2 e size v n xs:=by
 refine ⟨h.1,?_⟩
 rcases h.2 with ⟨rfl,h0⟩ | ⟨g,cap,cur,rfl,h2,h4⟩
 ·exact .inl ⟨rfl,h0⟩
 ·exact .inr ⟨g,cap,cur,rfl,hb g rfl,h4⟩
end
theorem info_parts {P:Program} {t:TypeId} {z:Option Value} {a b:Nat} (h:(P.info? t).map (fun i=>(i.zero,i.size,i.bytes))=some (z,a,b)):∃ i,P.info? t=some i/\i.zero=z/\i.size=a/\i.bytes=b:=by
 cases hi:P.info? t with
 | none=>rw [hi] at h;cases h
 | some i=>rw [hi] at h;simp at h;exact ⟨i,rfl,h.1,h.2.1,h.2.2⟩
theorem wpList_push {P:Program} {w:World} {ops:Array Oper} {rest:List Oper} {o:Oper} {a:Act} {Q:Exit->Act->World->Prop} (n1:Nat) (hgd:o.guard=none) (s x:Operand) (t e:TypeId)
  (ho:o.op = .call { callee:=.builtin .append,args:=#[s,x],argTypes:=#[t,t] })
  (ht:P.underlying t=some (.slice e)) (z:Value) (size bytes:Nat) (hinfo:(P.info? e).map (fun i=>(i.zero,i.size,i.bytes))=some (some z,size,bytes)) (hzs:z.cells.size=size) (hsz:0 < size) (hby:bytes<=64)
  (v:Value) (n:Nat) (xs:List Value) (hs:a.eval s=v) (hown:w.ownsRow 0 e size v n xs)
  (us:List Value) (hus:us.length=size) (h1:∀ u ∈ us,u.oneCell'=true) (hx:a.eval x = .slice (some ⟨w.heap.size,0,none⟩) 1 1) (hn1:n+1=n1) (hn:n<=1000000000000)
  (h:∀ A' c' w',Hid (w'.ownsRow 0 e size (.slice A' n1 c') n1 (xs ++ us))->Hid (w.grownBy w' v.ownBlock)->Hid ((Value.slice A' n1 c').ownBlock=v.ownBlock\/∃ g,(Value.slice A' n1 c').ownBlock=some g/\w.heap.size<=g/\g < w'.heap.size)->wpList P ops Q rest (a.put o.dst (.slice A' n1 c')) w') :
  wpList P ops Q (o :: rest) a (w.alloc (.cells us.toArray e)):=by
 subst hn1
 obtain ⟨i,hi,hz0,hz1,hz2⟩:=info_parts hinfo
 refine wpList_append_own_at (P:=P) (w.alloc (.cells us.toArray e)) hgd s x t ho 0 e i z size bytes ht hi hz0 hz1 hz2 hzs hsz v n xs hs (hown.alloc _)
  ⟨w.heap.size,0,none⟩ 1 1 us hx (by rw [hus,Nat.one_mul]) ?_ h1 (by unfold maxLen;omega) ?_ (Nat.zero_le _) ?_
 ·intro j u hj
  have e1:(Addr.add ⟨w.heap.size,0,none⟩ j)=⟨w.heap.size,j,none⟩:=by unfold Addr.add;split <;> simp_all
  rw [e1,cell_of_row _ _ j _ e (0,0) (heap_alloc_new w _),List.getElem?_toArray,hj]
 ·have:(n+1) * bytes<=1000000000001 * 64:=Nat.mul_le_mul (by omega) hby
  omega
 ·intro v' w' g1 g2 _ g4
  have hg:w.grownBy w' v.ownBlock:=(World.grownBy_alloc w _ _).trans g2
  obtain ⟨A',c',rfl,-,-⟩:=row_form g1
  refine h A' c' w' g1 hg (show _\/_ from ?_)
  rcases g4 with g4 | g4
  ·exact .inl g4
  ·refine .inr ⟨_,g4,by rw [World.size_alloc];omega,(g1.lt _ g4).2⟩
end Go.Mtl
set_option linter.unusedVariables false
namespace Go.Mtl
open Go.RowKit
def Rd (w:World) (B:Nat) (size n:Nat) (v:Value) (xs:List Value):Prop :=
 ∃ A c,v = .slice A n c/\n<=c/\c<=9223372036854775807/\xs.length=n * size/\(0 < n->∃ b off,A=some ⟨b,off,none⟩/\b < B/\∀ j u,xs[j]? = some u->w.cell? ⟨b,off+j,none⟩=some u)
section
variable {w w':World} {B B' size n:Nat} {v:Value} {xs:List Value}
theorem Rd.nil (w:World) (B size:Nat):Rd w B size 0 (.slice none 0 0) []:=⟨none,0,rfl,Nat.le_refl _,by omega,by simp,fun h=>absurd h (by omega)⟩
theorem Rd.keep (h:Rd w B size n v xs) (hk:∀ p:Addr,p.block < B->w'.cell? p=w.cell? p):Rd w' B size n v xs:=by
 obtain ⟨A,c,e,h1,h2,h3,h4⟩:=h
 refine ⟨A,c,e,h1,h2,h3,fun hn=>?_⟩
 obtain ⟨b,off,e2,hb,hc⟩:=h4 hn
 exact ⟨b,off,e2,hb,fun j u hu=>(hk ⟨b,off+j,none⟩ hb).trans (hc j u hu)⟩
theorem Rd.more (h:Rd w B size n v xs) (hB:B<=B'):Rd w B' size n v xs:=by
 obtain ⟨A,c,e,h1,h2,h3,h4⟩:=h
 refine ⟨A,c,e,h1,h2,h3,fun hn=>?_⟩
 obtain ⟨b,off,e2,hb,hc⟩:=h4 hn
 exact ⟨b,off,e2,by omega,hc⟩
theorem Rd.below (h:Rd w B size n v xs) (hb:Below B w w'):Rd w' B size n v xs:=h.keep fun _ hp=>hb.cell hp
theorem Rd.next (h:Rd w w.heap.size size n v xs) (hb:Below w.heap.size w w'):Rd w' w'.heap.size size n v xs:=(h.below hb).more hb.size
theorem Rd.only {O:Nat->Prop} (h:Rd w w.heap.size size n v xs) (ho:Only O w w') (hn:∀ g,v.ownBlock=some g->¬ O g):Rd w' w'.heap.size size n v xs:=by
 obtain ⟨A,c,rfl,h1,h2,h3,h4⟩:=h
 refine ⟨A,c,rfl,h1,h2,h3,fun hp=>?_⟩
 obtain ⟨b,off,rfl,hb,hc⟩:=h4 hp
 exact ⟨b,off,rfl,Nat.lt_of_lt_of_le hb ho.size,fun j u hu=>(ho.cell (p:=⟨b,off+j,none⟩) hb (hn b rfl)).trans (hc j u hu)⟩
theorem Rd.len (h:Rd w B size n v xs):∃ A c,v = .slice A n c/\n<=c/\c<=9223372036854775807:=by
 obtain ⟨A,c,e,h1,h2,_⟩:=h
 exact ⟨A,c,e,h1,h2⟩
theorem Rd.at_ (h:Rd w B size n v xs) (hn:0 < n):∃ b off c,v = .slice (some ⟨b,off,none⟩) n c/\n<=c/\c<=9223372036854775807/\b < B/\∀ j u,xs[j]? = some u->w.cell? ⟨b,off+j,none⟩=some u:=by
 obtain ⟨A,c,rfl,h1,h2,_,h4⟩:=h
 obtain ⟨b,off,rfl,hb,hc⟩:=h4 hn
 exact ⟨b,off,c,rfl,h1,h2,hb,hc⟩
theorem Rd.of_own {base e:Nat} (h:w.ownsRow base e size v n xs):Rd w w.heap.size size n v xs:=by
 obtain ⟨A,c,rfl,h1,h2⟩:=row_form h
 refine ⟨A,c,rfl,h1,h2,h.1,fun hn=>?_⟩
 rcases h.2 with ⟨_,h0⟩ | ⟨g,cap,cur,e1,_,h3,_⟩
 ·omega
 ·injection e1 with e1 _ _
  subst e1
  refine ⟨g,0,rfl,(Array.getElem?_eq_some_iff.1 h3).1,fun j u hu=>?_⟩
  have:=h.cells (g:=g) rfl j u hu
  have e:(Addr.add ⟨g,0,none⟩ j)=⟨g,j,none⟩:=by unfold Addr.add;split <;> simp_all
  rw [Nat.zero_add]
  rwa [e] at this
end
theorem slice_nil {P:Program} (t e:TypeId) (ht:P.underlying t=some (.slice e)) (A:Option Addr) (n c:Nat) (W:World):(binOp .eql t (.slice A n c) (.slice none 0 0)).run P W = .ok (.bool A.isNone) W:=by
 have h:(Op.equal t (.slice A n c) (.slice none 0 0)).run P W = .ok A.isNone W:=by
  show (Op.equalIn (9999+1) t _ _).run _ _=_
  rw [Op.equalIn]
  cases A <;> simp [run_underlying ht]
 simp [binOp,h]
theorem wpList_clone {P:Program} {w:World} {ops:Array Oper} {rest:List Oper} {o:Oper} {a:Act} {Q:Exit->Act->World->Prop} (hgd:o.guard=none) (s x:Operand) (t e:TypeId)
  (ho:o.op = .call { callee:=.builtin .append,args:=#[s,x],argTypes:=#[t,t] })
  (ht:P.underlying t=some (.slice e)) (z:Value) (size bytes:Nat) (hinfo:(P.info? e).map (fun i=>(i.zero,i.size,i.bytes))=some (some z,size,bytes)) (hzs:z.cells.size=size) (hsz:0 < size) (hby:bytes<=64)
  (hs:a.eval s = .slice (some ⟨w.heap.size,0,none⟩) 0 0) (n c:Nat) (ad:Addr) (xs:List Value) (hx:a.eval x = .slice (some ad) n c) (hr:Rd w w.heap.size size n (.slice (some ad) n c) xs) (h1:∀ u ∈ xs,u.oneCell'=true) (hn:n<=1000000000000)
  (h:∀ A' c' w',Hid (w'.ownsRow w.heap.size e size (.slice A' n c') n xs)->Hid (Below w.heap.size w w')->wpList P ops Q rest (a.put o.dst (.slice A' n c')) w') :
  wpList P ops Q (o :: rest) a (w.alloc (.cells #[] e)):=by
 obtain ⟨i,hi,hz0,hz1,hz2⟩:=info_parts hinfo
 have hb:Below w.heap.size w (w.alloc (.cells #[] e)):=(Below.refl _ w).alloc (Nat.le_refl _) _
 have hown:(w.alloc (.cells #[] e)).ownsRow w.heap.size e size (.slice (some ⟨w.heap.size,0,none⟩) 0 0) 0 [] :=
  World.ownsRow_made w #[] 0 (Nat.le_refl _) (by unfold maxLen;omega) (by simp)
 have hl:xs.length=n * size:=by obtain ⟨_,_,_,_,_,h3,_⟩:=hr;exact h3
 refine wpList_append_own_at (P:=P) (w.alloc (.cells #[] e)) hgd s x t ho w.heap.size e i z size bytes ht hi hz0 hz1 hz2 hzs hsz _ 0 [] hs hown ad n c xs hx hl ?_ h1 (by unfold maxLen;omega) ?_ (by rw [World.size_alloc];omega) ?_
 ·intro j u hj
  have hn0:0 < n:=by
   rcases Nat.eq_zero_or_pos n with h0 | h0
   ·subst h0;have:=(List.getElem?_eq_some_iff.1 hj).1;omega
   ·exact h0
  obtain ⟨b,off,c2,e2,_,_,hlt,hc⟩:=hr.at_ hn0
  injection e2 with e2 _ _
  obtain rfl:=Option.some.inj e2
  have e1:(Addr.add ⟨b,off,none⟩ j)=⟨b,off+j,none⟩:=by unfold Addr.add;split <;> simp_all
  rw [e1]
  exact (hb.cell (p:=⟨b,off+j,none⟩) hlt).trans (hc j u hj)
 ·have:(0+n) * bytes<=1000000000000 * 64:=Nat.mul_le_mul (by omega) hby
  omega
 ·intro v' w' g1 g2 _ _
  rw [Nat.zero_add,List.nil_append] at g1
  obtain ⟨A',c',rfl,-,-⟩:=row_form g1
  exact h A' c' w' g1 (hb.grown g2 (by rw [World.size_alloc];omega) fun k hk=>(hown.lt k hk).1)
theorem step_make {P:Program} {w:World} {o:Oper} {a:Act} {K:Act->World->Prop} {Q:Exit->Act->World->Prop} {ops:Array Oper} {E:Prop} (hgd:o.guard=none) (l c:Operand) (t:TypeId) (hop:o.op=Op.makeSlice t l c)
  (base:Nat) (e:TypeId) (z:Value) (size bytes:Nat) (ht:P.underlying t=some (.slice e)) (hinfo:(P.info? e).map (fun i=>(i.zero,i.size,i.bytes))=some (some z,size,bytes)) (hby:bytes<=64)
  (k:IntKind) (n:Nat) (hl:a.eval l = .int k (n:Int)) (hc:a.eval c = .int k (n:Int)) (hn:n<=1000000000000) (hb:base<=w.heap.size)
  (h:∀ w',Hid (w'.ownsRow base e size (.slice (some ⟨w.heap.size,0,none⟩) n n) n (madeCells z.cells (n * size)).toList)->Hid (Below w.heap.size w w')->K (a.put o.dst (.slice (some ⟨w.heap.size,0,none⟩) n n)) w') :
  if Region.wanted o (yielded ops a.tmps)=true then Oper.wp P o a w K Q else E:=by
 have hw:Region.wanted o (yielded ops a.tmps)=true:=by simp [Region.wanted,hgd]
 rw [if_pos hw]
 obtain ⟨i,hi,hz0,hz1,hz2⟩:=info_parts hinfo
 have hbb:i.bytes * n<=281474976710656:=by
  rw [hz2]
  have:bytes * n<=64 * 1000000000000:=Nat.mul_le_mul hby hn
  omega
 obtain ⟨w',hrun,r1,r2⟩:=run_make_full (P:=P) w base t e i z size ht hi hz0 hz1 k k n hbb (by unfold maxLen;omega) hb
 unfold Oper.wp
 simp [execOp,hop,hl,hc,hrun,Result.andThen]
 exact h _ r1 ((Below.refl _ w).grown r2 (Nat.le_refl _) (by simp))
theorem at_world {K:World->Prop} {x:World} (h:∀ V,V=x->K V):K x:=h x rfl
end Go.Mtl
set_option linter.unusedVariables false
namespace Go.Mtl
open Go.RowKit
theorem step_push1 {P:Program} {w:World} {o:Oper} {a:Act} {K:Act->World->Prop} {Q:Exit->Act->World->Prop} {ops:Array Oper} {E:Prop} (base:Nat) (n1:Nat) (hgd:o.guard=none) (s x:Operand) (t e:TypeId)
  (ho:o.op = .call { callee:=.builtin .append,args:=#[s,x],argTypes:=#[t,t] })
  (ht:P.underlying t=some (.slice e)) (z:Value) (size bytes:Nat) (hinfo:(P.info? e).map (fun i=>(i.zero,i.size,i.bytes))=some (some z,size,bytes)) (hzs:z.cells.size=size) (hsz:0 < size) (hby:bytes<=128)
  (v:Value) (n:Nat) (xs:List Value) (hs:a.eval s=v) (hbase:base<=w.heap.size) (hown:w.ownsRow base e size v n xs)
  (us:List Value) (hus:us.length=size) (h1:∀ u ∈ us,u.oneCell'=true) (g:Nat) (hcell:∀ j u,us[j]? = some u->w.cell? (Addr.add ⟨g,0,none⟩ j)=some u) (hx:a.eval x = .slice (some ⟨g,0,none⟩) 1 1) (hn1:n+1=n1) (hn:n<=1000000000000)
  (h:∀ A' c' w',Hid (w'.ownsRow base e size (.slice A' n1 c') n1 (xs ++ us))->Hid (w.grownBy w' v.ownBlock)->Hid ((Value.slice A' n1 c').ownBlock=v.ownBlock\/∃ g,(Value.slice A' n1 c').ownBlock=some g/\w.heap.size<=g/\g < w'.heap.size)->K (a.put o.dst (.slice A' n1 c')) w') :
  if Region.wanted o (yielded ops a.tmps)=true then Oper.wp P o a w K Q else E:=by
 subst hn1
 have hw:Region.wanted o (yielded ops a.tmps)=true:=by simp [Region.wanted,hgd]
 rw [if_pos hw]
 obtain ⟨i,hi,hz0,hz1,hz2⟩:=info_parts hinfo
 obtain ⟨v',w',h0,g1,g2,_,g4⟩:=run_append_own_at (P:=P) w base t o.type e i z size bytes ht hi hz0 hz1 hz2 hzs hsz v n xs hown ⟨g,0,none⟩ 1 1 us (by rw [hus,Nat.one_mul]) hcell h1 (by unfold maxLen;omega)
  (by have:(n+1) * bytes<=1000000000001 * 128:=Nat.mul_le_mul (by omega) hby;omega) hbase
 obtain ⟨A',c',rfl,-,-⟩:=row_form g1
 unfold Oper.wp execOp
 simp only [ho,resolve,invoke,builtin,Sem.run_bind,Sem.run_pure,Result.andThen_ok,List.map_toArray,List.map_cons,List.map_nil,hs,hx,h0]
 refine h _ _ _ g1 g2 (show _\/_ from ?_)
 rcases g4 with g4 | g4
 ·exact .inl g4
 ·exact .inr ⟨_,g4,Nat.le_refl _,(g1.lt _ g4).2⟩
theorem cells_of {w:World} {g:Nat} {us:List Value} {t:TypeId} (h:Blk w g us.toArray t):∀ j u,us[j]? = some u->w.cell? (Addr.add ⟨g,0,none⟩ j)=some u:=fun j u hu=>by
 have e:(Addr.add ⟨g,0,none⟩ j)=⟨g,j,none⟩:=by unfold Addr.add;split <;> simp_all
 rw [e]
 exact h.cell j u (by simpa using hu)
end Go.Mtl
