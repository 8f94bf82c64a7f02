import Derived.Test.YtcockldefmmhbaaGreatDoorRows
import Derived.Test.YtcockldefmmhbaaGreatDoorRulO
import Derived.WalkKit
import Derived.ProofKit
import Derived.OpenShut
import Derived.BigQuiet
import Derived.Lib.Hide
import Derived.MapKept
import Derived.Maps.RangeRun
set_option linter.unusedVariables false
set_option maxRecDepth 100000
set_option linter.unusedSimpArgs false
namespace Go.Proofs.YtcockldefmmhbaaGreatDoor
open Go.ChangeShapes Go.WideShapes Go.ChangeAt Go.RowKit Go.Mtl Go.Lib
namespace Ru
open RulM (R wordS known protoP known_iff)
open AdrM (anyL)
abbrev kAny:ByteArray:=⟨#[97,110,121]⟩
abbrev kIcmp:ByteArray:=⟨#[105,99,109,112]⟩
abbrev kTcp:ByteArray:=⟨#[116,99,112]⟩
abbrev kUdp:ByteArray:=⟨#[117,100,112]⟩
def pm1:Array MapEntry:=#[{ key:=.string kAny,val:=.int .u8 0,born:=0 }]
def pm2:Array MapEntry:=pm1.push { key:=.string kIcmp,val:=.int .u8 1,born:=1 }
def pm3:Array MapEntry:=pm2.push { key:=.string kTcp,val:=.int .u8 6,born:=2 }
def pm:Array MapEntry:=pm3.push { key:=.string kUdp,val:=.int .u8 17,born:=3 }
theorem push_set {α:Type} (h:Array α) (x y:α):(h.push x).setIfInBounds h.size y=h.push y:=by
 apply Array.toList_inj.1
 simp
theorem run_lay {P:Program} {t k e:TypeId} (ht:P.underlying t=some (.map k e)) (hk:P.underlying k=some .string) (w:World) (es:Array MapEntry) (clock:Nat) (s:ByteArray) (v:Value)
  (hs:∀ x ∈ es.toList,MapKept.IsKey .string x.key) (hn:∀ x ∈ es.toList,x.key ≠ .string s) :
  (Instr.mapUpdate t (.map (some w.heap.size)) (.string s) v).run P (w.alloc (.map es clock)) = .ok () (w.alloc (.map (es.push { key:=.string s,val:=v,born:=clock }) (clock+1))):=by
 have hb:(w.alloc (.map es clock)).heap[w.heap.size]? = some (.map es clock):=heap_alloc_new _ _
 have hf:Instr.findNow .string (.string s) es.toList 0=some none:=by
  rcases MapKept.findNow_spec (d:=.string) (k:=.string s) trivial es.toList 0 hs with ⟨h,_⟩ | ⟨j,e',_,h2,h3⟩
  ·exact h
  ·exact absurd h3 (hn e' (List.mem_of_getElem? h2))
 have hset:(setObj w.heap.size (.map (es.push { key:=.string s,val:=v,born:=clock }) (clock+1))).run P (w.alloc (.map es clock)) = .ok () (w.alloc (.map (es.push { key:=.string s,val:=v,born:=clock }) (clock+1))):=by
  rw [MapKept.run_setObj_map _ hb]
  show Result.ok () ({ w.alloc (.map es clock) with heap:=(w.heap.push (.map es clock)).setIfInBounds w.heap.size (.map (es.push { key:=.string s,val:=v,born:=clock }) (clock+1)) }:World)=_
  rw [push_set]
  rfl
 simp [Instr.mapUpdate,run_underlying ht,MapKept.run_getObj_map hb,MapKept.run_checkKey hk (k:=.string s) trivial,MapKept.run_findKey hk hf,hset,Result.andThen]
theorem lay1 (w:World):(Instr.mapUpdate 222 (.map (some w.heap.size)) (.string kAny) (.int .u8 0)).run Tryz.prog (w.alloc (.map #[] 0)) = .ok () (w.alloc (.map pm1 1)) :=
 run_lay Tryz.underlying222 Tryz.underlying9 w #[] 0 kAny _ (by intro x hx;simp at hx) (by intro x hx;simp at hx)
theorem pm1_mem {x:MapEntry} (h:x ∈ pm1.toList):x.key = .string kAny:=by simp [pm1] at h;rw [h]
theorem pm2_mem {x:MapEntry} (h:x ∈ pm2.toList):x.key = .string kAny\/x.key = .string kIcmp:=by
 simp [pm2,pm1] at h;rcases h with h | h <;> simp [h]
theorem pm3_mem {x:MapEntry} (h:x ∈ pm3.toList):x.key = .string kAny\/x.key = .string kIcmp\/x.key = .string kTcp:=by
 simp [pm3,pm2,pm1] at h;rcases h with h | h | h <;> simp [h]
theorem ne_str {a b:List UInt8} (h:a≠b):Value.string ⟨a.toArray⟩≠Value.string ⟨b.toArray⟩:=by
 intro e
 injection e with e
 exact h (by simpa using congrArg (fun x:ByteArray=>x.data.toList) e)
theorem lay2 (w:World):(Instr.mapUpdate 222 (.map (some w.heap.size)) (.string kIcmp) (.int .u8 1)).run Tryz.prog (w.alloc (.map pm1 1)) = .ok () (w.alloc (.map pm2 2)) :=
 run_lay Tryz.underlying222 Tryz.underlying9 w pm1 1 kIcmp _ (by intro x hx;rw [pm1_mem hx];trivial) (by intro x hx;rw [pm1_mem hx];exact ne_str (by decide))
theorem lay3 (w:World):(Instr.mapUpdate 222 (.map (some w.heap.size)) (.string kTcp) (.int .u8 6)).run Tryz.prog (w.alloc (.map pm2 2)) = .ok () (w.alloc (.map pm3 3)) :=
 run_lay Tryz.underlying222 Tryz.underlying9 w pm2 2 kTcp _ (by intro x hx;rcases pm2_mem hx with h | h <;> rw [h] <;> trivial) (by intro x hx;rcases pm2_mem hx with h | h <;> rw [h] <;> exact ne_str (by decide))
theorem lay4 (w:World):(Instr.mapUpdate 222 (.map (some w.heap.size)) (.string kUdp) (.int .u8 17)).run Tryz.prog (w.alloc (.map pm3 3)) = .ok () (w.alloc (.map pm 4)) :=
 run_lay Tryz.underlying222 Tryz.underlying9 w pm3 3 kUdp _ (by intro x hx;rcases pm3_mem hx with h | h | h <;> rw [h] <;> trivial) (by intro x hx;rcases pm3_mem hx with h | h | h <;> rw [h] <;> exact ne_str (by decide))
set_option maxRecDepth 100000 in
theorem protocols_any (w:World):Calls Tryz.prog 160 #[] w fun e w'=>e = .returned (.map (some w.heap.size))/\w'=w.alloc (.map pm 4):=by
 have h0:=run_makeMap (P:=Tryz.prog) 222 w
 have h1:=lay1 w
 have h2:=lay2 w
 have h3:=lay3 w
 have h4:=lay4 w
 go_enter Tryz.func160,Tryz.ntmps160
 go_wp2_with fail
 go_ret
 exact ⟨rfl,rfl⟩
theorem pm_mem {x:MapEntry} (h:x ∈ pm.toList):∃ p:Nat,p < 256/\x.key = .string ⟨(wordS p).toArray⟩/\x.val = .int .u8 (p:Int)/\known p=true:=by
 simp [pm,pm3,pm2,pm1] at h
 rcases h with h | h | h | h
 ·exact ⟨0,by omega,by rw [h];rfl,by rw [h];rfl,rfl⟩
 ·exact ⟨1,by omega,by rw [h];rfl,by rw [h];rfl,rfl⟩
 ·exact ⟨6,by omega,by rw [h];rfl,by rw [h];rfl,rfl⟩
 ·exact ⟨17,by omega,by rw [h];rfl,by rw [h];rfl,rfl⟩
theorem pm_all {p:Nat} (h:known p=true):∃ x ∈ pm.toList,x.val = .int .u8 (p:Int):=by
 rcases (known_iff p).1 h with rfl | rfl | rfl | rfl
 ·exact ⟨{ key:=.string kAny,val:=.int .u8 0,born:=0 },by simp [pm,pm3,pm2,pm1],rfl⟩
 ·exact ⟨{ key:=.string kIcmp,val:=.int .u8 1,born:=1 },by simp [pm,pm3,pm2,pm1],rfl⟩
 ·exact ⟨{ key:=.string kTcp,val:=.int .u8 6,born:=2 },by simp [pm,pm3,pm2,pm1],rfl⟩
 ·exact ⟨{ key:=.string kUdp,val:=.int .u8 17,born:=3 },by simp [pm,pm3,pm2,pm1],rfl⟩
theorem pm_stamped:MapKept.Stamped pm 4:=by
 refine ⟨fun x hx=>?_,by decide,?_⟩
 ·simp [pm,pm3,pm2,pm1] at hx
  rcases hx with h | h | h | h <;> rw [h] <;> decide
 ·have e:pm.toList.map (·.key)=[Value.string kAny,.string kIcmp,.string kTcp,.string kUdp]:=rfl
  rw [e]
  simp only [List.nodup_cons,List.mem_cons,List.not_mem_nil,or_false,not_or,List.nodup_nil,and_true]
  exact ⟨⟨ne_str (by decide),ne_str (by decide),ne_str (by decide)⟩,⟨ne_str (by decide),ne_str (by decide)⟩,ne_str (by decide),fun h=>h⟩
theorem ret_word {p q:List UInt8} {b c:Bool} (h:p=q) (h2:b=c):Ending.returned (.tuple #[.string ⟨p.toArray⟩,.bool b]) = .returned (.tuple #[.string ⟨q.toArray⟩,.bool c]):=by rw [h,h2]
theorem word_no {p:Nat} (h:known p=false):wordS p=[]:=by
 have:=RulM.known_word p
 rw [h] at this
 simpa using this
open Go.ChangeMaps (setBlock)
theorem setBlock_same {w:World} {r:Nat} (o:Obj) (h:r < w.heap.size):(setBlock w r o).heap[r]? = some o:=by simp [setBlock,h]
theorem setBlock_other {w:World} {r k:Nat} (o:Obj) (h:k≠r):(setBlock w r o).heap[k]? = w.heap[k]?:=by simp [setBlock,Ne.symm h]
theorem setBlock_below {B:Nat} {v w:World} {r:Nat} (o:Obj) (hb:Below B v w) (h:B<=r):Below B v (setBlock w r o) :=
 hb.trans ⟨rfl,rfl,rfl,by simp [setBlock],fun i hi=>setBlock_other o (by omega)⟩
theorem iterSeen_of {w:World} {r m a c:Nat} {s:Array Nat} (h:w.heap[r]? = some (.mapIter (some m) a s c)):w.iterSeen r=s:=by unfold World.iterSeen;rw [h]
def IterAt (w:World) (bm r p:Nat) (wr:World):Prop :=
 ∃ seen,wr.heap[r]? = some (.mapIter (some bm) 4 seen 4)/\wr.heap[bm]? = some (.map pm 4)/\Below w.heap.size w wr/\∀ x ∈ pm.toList,seen.contains x.born=true->x.val ≠ .int .u8 (p:Int)
set_option maxRecDepth 100000 in
set_option maxHeartbeats 1000000 in
theorem protocolWord_any (p:Nat) (hp:p < 256) (w:World) :
  Calls Tryz.prog 129 #[.int .u8 (p:Int)] w fun e w'=>e = .returned (.tuple #[.string ⟨(wordS p).toArray⟩,.bool (known p)])/\Below w.heap.size w w':=by
 have hbm:(w.alloc (.map pm 4)).heap[w.heap.size]? = some (.map pm 4):=heap_alloc_new _ _
 have hrg:=run_range_map (P:=Tryz.prog) (w.alloc (.map pm 4)) 222 9 5 w.heap.size pm 4 Tryz.underlying222 hbm
 have HI:Hid (IterAt w w.heap.size (w.heap.size+1) p ((w.alloc (.map pm 4)).alloc (.mapIter (some w.heap.size) 4 #[] 4))):=by
  refine ⟨#[],?_,?_,((Below.refl _ _).alloc (Nat.le_refl _) _).alloc (by simp) _,fun x _ h=>by simp at h⟩
  ·have:=heap_alloc_new (w.alloc (.map pm 4)) (.mapIter (some w.heap.size) 4 #[] 4)
   rw [World.size_alloc] at this
   exact this
  ·rw [heap_alloc_old _ _ (by simp)];exact hbm
 clear hbm
 rw [World.size_alloc] at hrg
 go_enter Tryz.func129,Tryz.ntmps129
 go_wp2_with fail
 go_at_call 160
 refine (protocols_any w).mono ?_
 rintro e w' ⟨rfl,rfl⟩
 go_wp2_with fail
 clear hrg
 go_loopw [] (fun wr=>Hid (IterAt w w.heap.size (w.heap.size+1) p wr)) (fun wr=>(leftOf pm (wr.iterSeen (w.heap.size+1))).size)
 case atStart=>exact HI
 case round =>
  obtain ⟨seen,hr,hb,hbel,hno⟩:=hrel.out
  have HIT:=Lib.hid (iterSeen_of hr)
  have hrl:w.heap.size+1 < wr.heap.size:=(Array.getElem?_eq_some_iff.1 hr).1
  have law:=run_next_at (P:=Tryz.prog) wr 0 (w.heap.size+1) w.heap.size 4 4 seen pm 4 hr hb pm_stamped.1 (Nat.le_refl _)
  rcases law with ⟨h0,hrun⟩ | ⟨e,he,w2,hw2,hrun⟩
  ·have hk:known p=false:=by
    cases hk:known p with
    | false=>rfl
    | true =>
     obtain ⟨x,hx,hv⟩:=pm_all hk
     exact absurd hv (hno x hx (all_seen pm seen h0 x hx))
   have HK:=Lib.hid hk
   have HBL:=Lib.hid hbel
   have hnx:∀ ty,(Instr.next (.pointer (some ⟨w.heap.size+1,0,none⟩)) false ty).run Tryz.prog wr=_:=fun _=>hrun
   clear hr hb hbel hno h0 hrun hk hrl
   go_wp2_with fail
   go_ret2
   exact ⟨ret_word (word_no HK.out).symm HK.out.symm,HBL.out⟩
  ·obtain ⟨q,hq,hkey,hval,hkn⟩:=pm_mem (mem_left he).1
   rw [hkey,hval] at hrun
   have hnx:∀ ty,(Instr.next (.pointer (some ⟨w.heap.size+1,0,none⟩)) false ty).run Tryz.prog wr=_:=fun _=>hrun
   have hb2:Below w.heap.size w w2:=by rcases hw2 with rfl | rfl;exact hbel;exact hbel.drew
   have hz2:w2.heap=wr.heap:=by rcases hw2 with rfl | rfl <;> rfl
   have hr3:=setBlock_same (w:=w2) (r:=w.heap.size+1) (.mapIter (some w.heap.size) 4 (seen.push e.born) 4) (by rw [hz2];exact hrl)
   have hb3:(setBlock w2 (w.heap.size+1) (.mapIter (some w.heap.size) 4 (seen.push e.born) 4)).heap[w.heap.size]? = some (.map pm 4):=(setBlock_other _ (by omega)).trans (by rw [hz2];exact hb)
   have hen:=run_entry_at (P:=Tryz.prog) (setBlock w2 (w.heap.size+1) (.mapIter (some w.heap.size) 4 (seen.push e.born) 4)) (w.heap.size+1) w.heap.size 4 seen pm 4 e hr3 hb3 (mem_left he).1 pm_stamped.2.1
   have hbl3:=setBlock_below (.mapIter (some w.heap.size) 4 (seen.push e.born) 4) hb2 (show w.heap.size<=w.heap.size+1 by omega)
   rw [hkey,hval] at hen
   have HM:Hid ((leftOf pm (seen.push e.born)).size < (leftOf pm seen).size):=left_shrinks pm seen e he
   have HIT3:=Lib.hid (iterSeen_of hr3)
   have HE:Hid (q≠p->IterAt w w.heap.size (w.heap.size+1) p (setBlock w2 (w.heap.size+1) (.mapIter (some w.heap.size) 4 (seen.push e.born) 4))):=fun hne=>by
    refine ⟨_,hr3,hb3,hbl3,fun x hx hc=>?_⟩
    rw [contains_push] at hc
    rcases Bool.or_eq_true _ _ ▸ hc with h1 | h1
    ·exact hno x hx h1
    ·have:x=e:=born_inj pm_stamped.2.1 hx (mem_left he).1 (beq_iff_eq.1 h1)
     subst this
     rw [hval]
     intro e2
     injection e2 with _ e2
     omega
   have HBL:=Lib.hid hbl3
   generalize setBlock w2 (w.heap.size+1) (.mapIter (some w.heap.size) 4 (seen.push e.born) 4)=w3 at *
   clear hr hb hbel hno hrun hkey hval hw2 hb2 hz2 hr3 hb3 hbl3 he hrl
   by_cases hqp:q=p
   ·subst hqp
    have HKN:=Lib.hid hkn
    clear hkn
    go_wp2_with fail
    go_ret2
    exact ⟨ret_word rfl HKN.out.symm,HBL.out⟩
   ·have HQ:=Lib.hid hqp
    have hd:((q:Int) == (p:Int))=false:=by rw [beq_eq_false_iff_ne];omega
    clear hkn hqp
    go_wp2_with fail
    go_roundw
    case rel=>exact HE.out HQ.out
    case measure=>rw [HIT3.out,HIT.out];exact HM.out
end Ru
end Go.Proofs.YtcockldefmmhbaaGreatDoor
