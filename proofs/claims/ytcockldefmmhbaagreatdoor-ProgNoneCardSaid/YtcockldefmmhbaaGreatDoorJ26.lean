/- Several texts of this proof in one file, each in its own namespace. -/
import Derived.Test.YtcockldefmmhbaaGreatDoorKeyM
import Derived.Test.YtcockldefmmhbaaGreatDoorJ7
import Derived.Test.YtcockldefmmhbaaGreatDoorJ10
set_option linter.unusedVariables false
namespace Go.Proofs.YtcockldefmmhbaaGreatDoor
namespace AutM
open KeyM (lessB keyN keyN_inj)
structure Ke where
 a:Nat
 b:Nat
 p:Nat
 q:Nat
 r:Nat
 deriving DecidableEq
structure Ke.Ok (k:Ke):Prop where
 a:k.a < 4294967296
 b:k.b < 4294967296
 p:k.p < 65536
 q:k.q < 65536
 r:k.r < 256
theorem Ke.ext' {x y:Ke} (h:x.a=y.a/\x.b=y.b/\x.p=y.p/\x.q=y.q/\x.r=y.r):x=y:=by
 cases x;cases y;obtain ⟨h1,h2,h3,h4,h5⟩:=h;simp_all
def Ke.num (k:Ke):Nat:=keyN k.a k.b k.p k.q k.r
def Ke.less (x y:Ke):Bool:=lessB x.a x.b x.p x.q x.r y.a y.b y.p y.q y.r
theorem Ke.num_inj {x y:Ke} (hx:x.Ok) (hy:y.Ok) (h:x.num=y.num):x=y:=by
 have:=keyN_inj hx.a hx.b hx.p hx.q hy.a hy.b hy.p hy.q h
 exact Ke.ext' ⟨this.1,this.2.1,this.2.2.1,this.2.2.2.1,this.2.2.2.2⟩
structure Fl where
 k:Ke
 c:Int
 n:Int
 s:Int
 dn:Bool
structure Fl.Ok (f:Fl):Prop where
 k:f.k.Ok
 fit:FloM.Fit f.c f.n f.s
 lo:1<=f.s
 hi:f.s<=9
def Srt (fs:List Fl):Prop:=fs.Pairwise (fun x y=>x.k.num < y.k.num)
structure Oks (fs:List Fl):Prop where
 ok:∀ f ∈ fs,f.Ok
 srt:Srt fs
theorem Oks.nil:Oks []:=⟨fun f h=>absurd h List.not_mem_nil,List.Pairwise.nil⟩
def find (k:Ke) (fs:List Fl):Option Fl:=fs.find? (fun f=>decide (f.k=k))
def idx (k:Ke) (fs:List Fl):Option Nat:=fs.findIdx? (fun f=>decide (f.k=k))
def drop (k:Ke) (fs:List Fl):List Fl:=fs.filter (fun f=>decide (f.k≠k))
def put (g:Fl) (fs:List Fl):List Fl:=fs.map (fun f=>if f.k=g.k then g else f)
def ins (g:Fl):List Fl->List Fl
 | []=>[g]
 | f :: fs=>if f.k.num < g.k.num then f :: ins g fs else g :: f :: fs
theorem find_some {k:Ke} {fs:List Fl} {f:Fl} (h:find k fs=some f):f ∈ fs/\f.k=k:=by
 unfold find at h
 exact ⟨List.mem_of_find?_eq_some h,by simpa using List.find?_some h⟩
theorem find_none {k:Ke} {fs:List Fl} (h:find k fs=none):∀ f ∈ fs,f.k≠k:=by
 unfold find at h
 rw [List.find?_eq_none] at h
 intro f hf
 simpa using h f hf
theorem srt_cons {f:Fl} {fs:List Fl}:Srt (f :: fs) ↔ (∀ g ∈ fs,f.k.num < g.k.num)/\Srt fs:=List.pairwise_cons
theorem Oks.tail {f:Fl} {fs:List Fl} (h:Oks (f :: fs)):Oks fs:=⟨fun g hg=>h.ok g (List.mem_cons_of_mem _ hg),(srt_cons.1 h.srt).2⟩
theorem Oks.uniq {fs:List Fl} (h:Oks fs) {f g:Fl} (hf:f ∈ fs) (hg:g ∈ fs) (e:f.k=g.k):f=g:=by
 induction fs with
 | nil=>cases hf
 | cons x fs ih =>
  have h1:=(srt_cons.1 h.srt).1
  rcases List.mem_cons.1 hf with rfl | hf' <;> rcases List.mem_cons.1 hg with rfl | hg'
  ·rfl
  ·have:=h1 g hg';rw [e] at this;omega
  ·have:=h1 f hf';rw [e] at this;omega
  ·exact ih h.tail hf' hg'
theorem Oks.find_of {fs:List Fl} (h:Oks fs) {f:Fl} (hf:f ∈ fs):find f.k fs=some f:=by
 cases hq:find f.k fs with
 | none=>exact absurd rfl (find_none hq f hf)
 | some g=>obtain ⟨h1,h2⟩:=find_some hq;rw [h.uniq h1 hf h2]
theorem Oks.nodup {fs:List Fl} (h:Oks fs):(fs.map (·.k)).Nodup:=by
 rw [List.nodup_iff_pairwise_ne,List.pairwise_map]
 exact h.srt.imp fun hlt e=>by rw [e] at hlt;omega
theorem mem_drop {k:Ke} {fs:List Fl} {f:Fl}:f ∈ drop k fs ↔ f ∈ fs/\f.k≠k:=by unfold drop;simp
theorem Oks.drop {fs:List Fl} (h:Oks fs) (k:Ke):Oks (drop k fs) :=
 ⟨fun f hf=>h.ok f (mem_drop.1 hf).1,List.Pairwise.filter _ h.srt⟩
theorem Oks.split {fs:List Fl} (h:Oks fs) {k:Ke} {f:Fl} (hf:find k fs=some f):∃ xs ys,fs=xs ++ f :: ys/\idx k fs=some xs.length/\AutM.drop k fs=xs ++ ys/\(∀ g,g.k=k->put g fs=xs ++ g :: ys) ∧
  (∀ g ∈ xs,g.k≠k)/\(∀ g ∈ ys,g.k≠k):=by
 obtain ⟨hm,hk⟩:=find_some hf
 obtain ⟨xs,ys,e⟩:=List.append_of_mem hm
 have hs:=h.srt
 unfold Srt at hs
 rw [e,List.pairwise_append,List.pairwise_cons] at hs
 obtain ⟨_,⟨h2,_⟩,h3⟩:=hs
 have nx:∀ g ∈ xs,g.k≠k:=fun g hg e'=>by have:=h3 g hg f List.mem_cons_self;rw [e',hk] at this;omega
 have ny:∀ g ∈ ys,g.k≠k:=fun g hg e'=>by have:=h2 g hg;rw [e',hk] at this;omega
 refine ⟨xs,ys,e,?_,?_,?_,nx,ny⟩
 ·unfold idx
  rw [e,List.findIdx?_append,List.findIdx?_eq_none_iff.2 (fun g hg=>by simpa using nx g hg)]
  simp [List.findIdx?_cons,hk]
 ·unfold AutM.drop
  rw [e,List.filter_append,List.filter_cons,if_neg (by simpa using hk),List.filter_eq_self.2 (fun g hg=>by simpa using nx g hg),List.filter_eq_self.2 (fun g hg=>by simpa using ny g hg)]
 ·intro g hg
  unfold AutM.put
  rw [e,List.map_append,List.map_cons,if_pos (by rw [hk,hg])]
  have e1:xs.map (fun f=>if f.k=g.k then g else f)=xs:=by
   exact (List.map_congr_left (g:=id) fun x hx=>by rw [if_neg (by rw [hg];exact nx x hx)];rfl).trans (List.map_id xs)
  have e2:ys.map (fun f=>if f.k=g.k then g else f)=ys:=by
   exact (List.map_congr_left (g:=id) fun x hx=>by rw [if_neg (by rw [hg];exact ny x hx)];rfl).trans (List.map_id ys)
  rw [e1,e2]
theorem idx_none {k:Ke} {fs:List Fl} (h:find k fs=none):idx k fs=none:=by
 unfold idx
 rw [List.findIdx?_eq_none_iff]
 intro f hf
 simpa using find_none h f hf
theorem Oks.len_drop {fs:List Fl} (h:Oks fs) {k:Ke} {f:Fl} (hf:find k fs=some f):(AutM.drop k fs).length+1=fs.length:=by
 obtain ⟨xs,ys,e,_,e2,_⟩:=h.split hf
 rw [e2,e];simp;omega
theorem mem_put {g f:Fl} {fs:List Fl} (h:f ∈ put g fs):f=g\/f ∈ fs:=by
 unfold put at h
 obtain ⟨x,hx,rfl⟩:=List.mem_map.1 h
 split
 ·exact .inl rfl
 ·exact .inr hx
theorem put_keys (g:Fl) (fs:List Fl):(put g fs).map (·.k)=fs.map (·.k):=by
 unfold put
 rw [List.map_map]
 refine List.map_congr_left fun x _=>?_
 show (if x.k=g.k then g else x).k=x.k
 split
 ·rename_i h;exact h.symm
 ·rfl
theorem len_put (g:Fl) (fs:List Fl):(put g fs).length=fs.length:=by unfold put;rw [List.length_map]
theorem Oks.put {fs:List Fl} (h:Oks fs) {g:Fl} (hg:g.Ok):Oks (put g fs):=by
 refine ⟨fun f hf=>?_,?_⟩
 ·rcases mem_put hf with rfl | hf
  ·exact hg
  ·exact h.ok f hf
 ·have hs:=h.srt
  unfold Srt at hs ⊢
  have e:∀ l:List Fl,l.Pairwise (fun x y=>x.k.num < y.k.num) ↔ (l.map (·.k)).Pairwise (fun x y=>x.num < y.num):=fun l=>by rw [List.pairwise_map]
  rw [e,put_keys,← e]
  exact hs
theorem ins_perm (g:Fl):∀ fs:List Fl,(ins g fs).Perm (g :: fs):=by
 intro fs
 induction fs with
 | nil=>exact List.Perm.refl _
 | cons f fs ih =>
  unfold ins
  split
  ·exact (ih.cons f).trans (List.Perm.swap _ _ _)
  ·exact List.Perm.refl _
theorem len_ins (g:Fl) (fs:List Fl):(ins g fs).length=fs.length+1:=(ins_perm g fs).length_eq
theorem mem_ins {g f:Fl} {fs:List Fl}:f ∈ ins g fs ↔ f=g\/f ∈ fs:=by rw [(ins_perm g fs).mem_iff,List.mem_cons]
theorem Oks.ins {fs:List Fl} (h:Oks fs) {g:Fl} (hg:g.Ok) (hn:find g.k fs=none):Oks (ins g fs):=by
 refine ⟨fun f hf=>?_,?_⟩
 ·rcases mem_ins.1 hf with rfl | hf
  ·exact hg
  ·exact h.ok f hf
 ·have hne:=find_none hn
  clear hn
  induction fs with
  | nil=>exact List.pairwise_singleton _ _
  | cons f fs ih =>
   obtain ⟨h1,h2⟩:=srt_cons.1 h.srt
   unfold AutM.ins
   split
   ·rename_i hlt
    refine srt_cons.2 ⟨fun x hx=>?_,ih h.tail fun x hx=>hne x (List.mem_cons_of_mem _ hx)⟩
    rcases mem_ins.1 hx with rfl | hx
    ·exact hlt
    ·exact h1 x hx
   ·rename_i hlt
    have hf:g.k.num < f.k.num:=by
     rcases Nat.lt_trichotomy g.k.num f.k.num with c | c | c
     ·exact c
     ·exact absurd (Ke.num_inj hg.k (h.ok f List.mem_cons_self).k c).symm (hne f List.mem_cons_self)
     ·exact absurd c hlt
    refine srt_cons.2 ⟨fun x hx=>?_,h.srt⟩
    rcases List.mem_cons.1 hx with rfl | hx
    ·exact hf
    ·have:=h1 x hx;omega
end AutM
end Go.Proofs.YtcockldefmmhbaaGreatDoor
set_option linter.unusedVariables false
namespace Go.Proofs.YtcockldefmmhbaaGreatDoor
namespace TabM
structure Fl where
 k:AutM.Ke
 x:Int
 dn:Bool
structure Fl.Ok (f:Fl):Prop where
 k:f.k.Ok
 lo : -9223372036854775808<=f.x
 hi:f.x<=9223372036854775807
def Srt (fs:List Fl):Prop:=fs.Pairwise (fun x y=>x.k.num < y.k.num)
structure Oks (fs:List Fl):Prop where
 ok:∀ f ∈ fs,f.Ok
 srt:Srt fs
theorem Oks.nil:Oks []:=⟨fun f h=>absurd h List.not_mem_nil,List.Pairwise.nil⟩
def find (k:AutM.Ke) (fs:List Fl):Option Fl:=fs.find? (fun f=>decide (f.k=k))
def idx (k:AutM.Ke) (fs:List Fl):Option Nat:=fs.findIdx? (fun f=>decide (f.k=k))
def drop (k:AutM.Ke) (fs:List Fl):List Fl:=fs.filter (fun f=>decide (f.k≠k))
def put (g:Fl) (fs:List Fl):List Fl:=fs.map (fun f=>if f.k=g.k then g else f)
def ins (g:Fl):List Fl->List Fl
 | []=>[g]
 | f :: fs=>if f.k.num < g.k.num then f :: ins g fs else g :: f :: fs
theorem find_some {k:AutM.Ke} {fs:List Fl} {f:Fl} (h:find k fs=some f):f ∈ fs/\f.k=k:=by
 unfold find at h
 exact ⟨List.mem_of_find?_eq_some h,by simpa using List.find?_some h⟩
theorem find_none {k:AutM.Ke} {fs:List Fl} (h:find k fs=none):∀ f ∈ fs,f.k≠k:=by
 unfold find at h
 rw [List.find?_eq_none] at h
 intro f hf
 simpa using h f hf
theorem srt_cons {f:Fl} {fs:List Fl}:Srt (f :: fs) ↔ (∀ g ∈ fs,f.k.num < g.k.num)/\Srt fs:=List.pairwise_cons
theorem Oks.tail {f:Fl} {fs:List Fl} (h:Oks (f :: fs)):Oks fs:=⟨fun g hg=>h.ok g (List.mem_cons_of_mem _ hg),(srt_cons.1 h.srt).2⟩
theorem Oks.uniq {fs:List Fl} (h:Oks fs) {f g:Fl} (hf:f ∈ fs) (hg:g ∈ fs) (e:f.k=g.k):f=g:=by
 induction fs with
 | nil=>cases hf
 | cons x fs ih =>
  have h1:=(srt_cons.1 h.srt).1
  rcases List.mem_cons.1 hf with rfl | hf' <;> rcases List.mem_cons.1 hg with rfl | hg'
  ·rfl
  ·have:=h1 g hg';rw [e] at this;omega
  ·have:=h1 f hf';rw [e] at this;omega
  ·exact ih h.tail hf' hg'
theorem Oks.find_of {fs:List Fl} (h:Oks fs) {f:Fl} (hf:f ∈ fs):find f.k fs=some f:=by
 cases hq:find f.k fs with
 | none=>exact absurd rfl (find_none hq f hf)
 | some g=>obtain ⟨h1,h2⟩:=find_some hq;rw [h.uniq h1 hf h2]
theorem Oks.nodup {fs:List Fl} (h:Oks fs):(fs.map (·.k)).Nodup:=by
 rw [List.nodup_iff_pairwise_ne,List.pairwise_map]
 exact h.srt.imp fun hlt e=>by rw [e] at hlt;omega
theorem mem_drop {k:AutM.Ke} {fs:List Fl} {f:Fl}:f ∈ drop k fs ↔ f ∈ fs/\f.k≠k:=by unfold drop;simp
theorem Oks.drop {fs:List Fl} (h:Oks fs) (k:AutM.Ke):Oks (drop k fs) :=
 ⟨fun f hf=>h.ok f (mem_drop.1 hf).1,List.Pairwise.filter _ h.srt⟩
theorem Oks.split {fs:List Fl} (h:Oks fs) {k:AutM.Ke} {f:Fl} (hf:find k fs=some f):∃ xs ys,fs=xs ++ f :: ys/\idx k fs=some xs.length/\TabM.drop k fs=xs ++ ys/\(∀ g,g.k=k->put g fs=xs ++ g :: ys) ∧
  (∀ g ∈ xs,g.k≠k)/\(∀ g ∈ ys,g.k≠k):=by
 obtain ⟨hm,hk⟩:=find_some hf
 obtain ⟨xs,ys,e⟩:=List.append_of_mem hm
 have hs:=h.srt
 unfold Srt at hs
 rw [e,List.pairwise_append,List.pairwise_cons] at hs
 obtain ⟨_,⟨h2,_⟩,h3⟩:=hs
 have nx:∀ g ∈ xs,g.k≠k:=fun g hg e'=>by have:=h3 g hg f List.mem_cons_self;rw [e',hk] at this;omega
 have ny:∀ g ∈ ys,g.k≠k:=fun g hg e'=>by have:=h2 g hg;rw [e',hk] at this;omega
 refine ⟨xs,ys,e,?_,?_,?_,nx,ny⟩
 ·unfold idx
  rw [e,List.findIdx?_append,List.findIdx?_eq_none_iff.2 (fun g hg=>by simpa using nx g hg)]
  simp [List.findIdx?_cons,hk]
 ·unfold TabM.drop
  rw [e,List.filter_append,List.filter_cons,if_neg (by simpa using hk),List.filter_eq_self.2 (fun g hg=>by simpa using nx g hg),List.filter_eq_self.2 (fun g hg=>by simpa using ny g hg)]
 ·intro g hg
  unfold TabM.put
  rw [e,List.map_append,List.map_cons,if_pos (by rw [hk,hg])]
  have e1:xs.map (fun f=>if f.k=g.k then g else f)=xs:=by
   exact (List.map_congr_left (g:=id) fun x hx=>by rw [if_neg (by rw [hg];exact nx x hx)];rfl).trans (List.map_id xs)
  have e2:ys.map (fun f=>if f.k=g.k then g else f)=ys:=by
   exact (List.map_congr_left (g:=id) fun x hx=>by rw [if_neg (by rw [hg];exact ny x hx)];rfl).trans (List.map_id ys)
  rw [e1,e2]
theorem idx_none {k:AutM.Ke} {fs:List Fl} (h:find k fs=none):idx k fs=none:=by
 unfold idx
 rw [List.findIdx?_eq_none_iff]
 intro f hf
 simpa using find_none h f hf
theorem Oks.len_drop {fs:List Fl} (h:Oks fs) {k:AutM.Ke} {f:Fl} (hf:find k fs=some f):(TabM.drop k fs).length+1=fs.length:=by
 obtain ⟨xs,ys,e,_,e2,_⟩:=h.split hf
 rw [e2,e];simp;omega
theorem mem_put {g f:Fl} {fs:List Fl} (h:f ∈ put g fs):f=g\/f ∈ fs:=by
 unfold put at h
 obtain ⟨x,hx,rfl⟩:=List.mem_map.1 h
 split
 ·exact .inl rfl
 ·exact .inr hx
theorem put_keys (g:Fl) (fs:List Fl):(put g fs).map (·.k)=fs.map (·.k):=by
 unfold put
 rw [List.map_map]
 refine List.map_congr_left fun x _=>?_
 show (if x.k=g.k then g else x).k=x.k
 split
 ·rename_i h;exact h.symm
 ·rfl
theorem len_put (g:Fl) (fs:List Fl):(put g fs).length=fs.length:=by unfold put;rw [List.length_map]
theorem Oks.put {fs:List Fl} (h:Oks fs) {g:Fl} (hg:g.Ok):Oks (put g fs):=by
 refine ⟨fun f hf=>?_,?_⟩
 ·rcases mem_put hf with rfl | hf
  ·exact hg
  ·exact h.ok f hf
 ·have hs:=h.srt
  unfold Srt at hs ⊢
  have e:∀ l:List Fl,l.Pairwise (fun x y=>x.k.num < y.k.num) ↔ (l.map (·.k)).Pairwise (fun x y=>x.num < y.num):=fun l=>by rw [List.pairwise_map]
  rw [e,put_keys,← e]
  exact hs
theorem ins_perm (g:Fl):∀ fs:List Fl,(ins g fs).Perm (g :: fs):=by
 intro fs
 induction fs with
 | nil=>exact List.Perm.refl _
 | cons f fs ih =>
  unfold ins
  split
  ·exact (ih.cons f).trans (List.Perm.swap _ _ _)
  ·exact List.Perm.refl _
theorem len_ins (g:Fl) (fs:List Fl):(ins g fs).length=fs.length+1:=(ins_perm g fs).length_eq
theorem mem_ins {g f:Fl} {fs:List Fl}:f ∈ ins g fs ↔ f=g\/f ∈ fs:=by rw [(ins_perm g fs).mem_iff,List.mem_cons]
theorem Oks.ins {fs:List Fl} (h:Oks fs) {g:Fl} (hg:g.Ok) (hn:find g.k fs=none):Oks (ins g fs):=by
 refine ⟨fun f hf=>?_,?_⟩
 ·rcases mem_ins.1 hf with rfl | hf
  ·exact hg
  ·exact h.ok f hf
 ·have hne:=find_none hn
  clear hn
  induction fs with
  | nil=>exact List.pairwise_singleton _ _
  | cons f fs ih =>
   obtain ⟨h1,h2⟩:=srt_cons.1 h.srt
   unfold TabM.ins
   split
   ·rename_i hlt
    refine srt_cons.2 ⟨fun x hx=>?_,ih h.tail fun x hx=>hne x (List.mem_cons_of_mem _ hx)⟩
    rcases mem_ins.1 hx with rfl | hx
    ·exact hlt
    ·exact h1 x hx
   ·rename_i hlt
    have hf:g.k.num < f.k.num:=by
     rcases Nat.lt_trichotomy g.k.num f.k.num with c | c | c
     ·exact c
     ·exact absurd (AutM.Ke.num_inj hg.k (h.ok f List.mem_cons_self).k c).symm (hne f List.mem_cons_self)
     ·exact absurd c hlt
    refine srt_cons.2 ⟨fun x hx=>?_,h.srt⟩
    rcases List.mem_cons.1 hx with rfl | hx
    ·exact hf
    ·have:=h1 x hx;omega
end TabM
end Go.Proofs.YtcockldefmmhbaaGreatDoor
