/- Layer 20: maps.Keys of a stripe's map: the iterator's contract. -/
import Derived.Test.YtcockldefmmhbaaGreatDoorJ46
import Derived.RangeFuncGives
import Derived.Sort.MapsRangeIn
import Derived.WalkKit
import Derived.OwnWalkIn
import Derived.TacticsInMore
import Derived.RegionIn
import Derived.LoopNIn
import Derived.LoopIn
import Derived.Maps.RangeRun
import Derived.Shelf.Abstract
import Derived.Shelf.AbstractIn
set_option linter.unusedVariables false
set_option linter.unusedSimpArgs false
set_option maxRecDepth 100000
namespace Go.Proofs.YtcockldefmmhbaaGreatDoor
open Go.ChangeShapes Go.WideShapes Go.ChangeAt Go.RowKit Go.Mtl Go.Lib
namespace Tb
open TabM
open Go.ChangeMaps (setBlock)

theorem setBlock_same {w : World} {r : Nat} (o : Obj) (h : r < w.heap.size) : (setBlock w r o).heap[r]? = some o := by simp [setBlock, h]
theorem setBlock_other {w : World} {r k : Nat} (o : Obj) (h : k ≠ r) : (setBlock w r o).heap[k]? = w.heap[k]? := by simp [setBlock, Ne.symm h]
theorem iterSeen_of {w : World} {r m a c : Nat} {s : Array Nat} (h : w.heap[r]? = some (.mapIter (some m) a s c)) : w.iterSeen r = s := by unfold World.iterSeen; rw [h]
/-- The key that a value is. -/
def decK : Value → AutM.Ke
  | .agg cs => match cs.toList with
    | [.int _ a, .int _ b, .int _ p, .int _ q, .int _ r] => ⟨a.toNat, b.toNat, p.toNat, q.toNat, r.toNat⟩
    | _ => ⟨0, 0, 0, 0, 0⟩
  | _ => ⟨0, 0, 0, 0, 0⟩
theorem decK_ky (k : AutM.Ke) : decK (Au.kyV k) = k := by cases k; rfl
/-- The keys of a map's entries. -/
def eks (es : List MapEntry) : List AutM.Ke := es.map fun e => decK e.key
theorem eks_is {es : List MapEntry} {gs : List Fl} (h : es.map ent = gs.map kv) : eks es = gs.map (·.k) := by
  have h1 := congrArg (List.map fun p : Value × Value => decK p.1) h
  simp only [List.map_map] at h1
  unfold eks
  rw [show (fun e : MapEntry => decK e.key) = (fun p : Value × Value => decK p.1) ∘ ent from rfl, h1]
  refine List.map_congr_left fun f _ => ?_
  exact decK_ky f.k
theorem key_of {es : List MapEntry} {gs : List Fl} (h : es.map ent = gs.map kv) {e : MapEntry} (he : e ∈ es) : e.key = Au.kyV (decK e.key) := by
  have : ent e ∈ gs.map kv := by rw [← h]; exact List.mem_map_of_mem he
  obtain ⟨f, _, hf⟩ := List.mem_map.1 this
  have h1 : Au.kyV f.k = e.key := congrArg Prod.fst hf
  rw [← h1, decK_ky]
theorem left_perm {es : Array MapEntry} {seen : Array Nat} {e : MapEntry} (hn : (es.toList.map (·.born)).Nodup) (he : e ∈ (leftOf es seen).toList) : ((leftOf es seen).toList).Perm (e :: (leftOf es (seen.push e.born)).toList) := by
  have e1 : (leftOf es (seen.push e.born)).toList = (leftOf es seen).toList.filter fun x => !(x.born == e.born) := by
    unfold leftOf
    rw [Array.toList_filter, Array.toList_filter, List.filter_filter]
    refine List.filter_congr fun x _ => ?_
    rw [contains_push]
    cases seen.contains x.born <;> cases (x.born == e.born) <;> rfl
  rw [e1]
  have hn2 : ((leftOf es seen).toList.map (·.born)).Nodup := by
    unfold leftOf
    rw [Array.toList_filter]
    exact (List.Sublist.map _ List.filter_sublist).nodup hn
  generalize (leftOf es seen).toList = l at he hn2
  clear e1
  induction l with
  | nil => cases he
  | cons x l ih =>
    have hc := List.nodup_cons.1 hn2
    rcases List.mem_cons.1 he with rfl | he
    · rw [List.filter_cons, if_neg (by simp), List.filter_eq_self.2]
      intro y hy
      have : y.born ≠ e.born := fun e2 => hc.1 (List.mem_map.2 ⟨y, hy, e2⟩)
      simpa using this
    · have hne : x.born ≠ e.born := fun e2 => hc.1 (List.mem_map.2 ⟨e, he, e2.symm⟩)
      rw [List.filter_cons, if_pos (by simpa using hne)]
      exact ((ih he hc.2).cons x).trans (List.Perm.swap _ _ _)
/-- What the loop over the map keeps: the keys that have come, and those that are left. -/
def IterK (es : Array MapEntry) (clock M r : Nat) (J : List AutM.Ke → World → Prop) (wr : World) (seen : Array Nat) (ks : List AutM.Ke) : Prop :=
  wr.heap[r]? = some (.mapIter (some M) clock seen clock) ∧ wr.heap[M]? = some (.map es clock) ∧ (ks ++ eks (leftOf es seen).toList).Perm (eks es.toList) ∧ J ks wr
theorem left_all {es : Array MapEntry} : (leftOf es #[]).toList = es.toList := by
  unfold leftOf
  rw [Array.toList_filter]
  exact List.filter_eq_self.2 fun x _ => by simp
theorem grown_alloc (W : World) (o : Obj) : W.grownBy (W.alloc o) none := ⟨rfl, rfl, rfl, by simp, fun k hk _ => Below.heap_alloc _ _ k hk⟩
theorem grown_drew (W : World) : W.grownBy W.drew none := ⟨rfl, rfl, rfl, Nat.le_refl _, fun _ _ _ => rfl⟩
theorem grown_block (W : World) (r : Nat) (o : Obj) : W.grownBy (setBlock W r o) (some r) := ⟨rfl, rfl, rfl, by simp [setBlock], fun k _ hk => setBlock_other o (fun e => hk (by rw [e]))⟩
theorem gathered {ks : List AutM.Ke} {e : MapEntry} {l l' all : List MapEntry} (hp : (ks ++ eks l).Perm (eks all)) (hl : l.Perm (e :: l')) : ((ks ++ [decK e.key]) ++ eks l').Perm (eks all) := by
  refine List.Perm.trans ?_ hp
  rw [List.append_assoc]
  refine List.Perm.append_left ks ?_
  have := (hl.map fun e => decK e.key).symm
  exact this

set_option maxRecDepth 100000 in
set_option maxHeartbeats 1000000 in
theorem iter_any (n : Nat) (hn : 1 ≤ n) (l Bm M : Nat) (fs : List Fl) (J : List AutM.Ke → World → Prop) (W : World)
    (hY : ∀ pre x W, J pre W → pre.length < fs.length → YieldAt Fence.wide (n - 1) Tryz.prog l #[Au.kyV x] W fun e W' => e = .returned (.bool true) ∧ J (pre ++ [x]) W' ∧ KeepsWalks W W')
    (hJ : AbidesFrom W.heap.size J) (hm : W.cell? ⟨Bm, 0, none⟩ = some (.map (some M))) (hM : MapAt W M fs) (h0 : J [] W) :
    CallsIn Fence.wide n Tryz.prog 175 #[.func (.yield l) #[] #[], .pointer (some ⟨Bm, 0, none⟩)] W fun e W' => (∃ v, e = .returned v) ∧ ∃ ks : List AutM.Ke, ks.Perm (fs.map (·.k)) ∧ J ks W' := by
  obtain ⟨es, clock, gs, hb, h1, h2, h3, h4⟩ := hM
  have hbl : M < W.heap.size := (Array.getElem?_eq_some_iff.1 hb).1
  have hrg := run_range_map (P := Tryz.prog) W 133 87 187 M es clock map_is hb
  have hall : (eks es.toList).Perm (fs.map (·.k)) := by rw [eks_is h1]; exact h2.map _
  have HALL := Lib.hid hall
  have HBORN := Lib.hid h3
  have HCLK := Lib.hid h4
  have HKEY : Hid (∀ e ∈ es.toList, e.key = Au.kyV (decK e.key)) := fun e he => key_of h1 he
  have HJ := Lib.hid hJ
  have HY := Lib.hid hY
  have HI : Hid (∃ seen ks, IterK es clock M W.heap.size J (W.alloc (.mapIter (some M) clock #[] clock)) seen ks) := by
    refine ⟨#[], [], heap_alloc_new _ _, (heap_alloc_old _ _ hbl).trans hb, ?_, hJ [] W _ none h0 (grown_alloc _ _) (fun r e => by cases e)⟩
    rw [left_all, List.nil_append]
  refine callsIn_of_wp Tryz.func175 rfl trivial ?_ rfl
  simp only [Tryz.ntmps175, List.size_toArray, List.length_cons, List.length_nil, Nat.reduceAdd, Nat.reduceSub, Array.replicate_succ, Array.replicate_zero, List.push_toArray, List.append_toArray, List.nil_append, List.cons_append]
  gi_wp2
  clear hrg hm hall h1 h2 h3 h4 hJ hY h0 hb
  have HBL := Lib.hid hbl
  clear hbl
  gi_loopw [3] (fun _ wr => ∃ seen ks, IterK es clock M W.heap.size J wr seen ks) (fun _ wr => (leftOf es (wr.iterSeen W.heap.size)).size)
  case atStart => exact HI.out
  case round =>
    obtain ⟨seen, ks, hr, hb, hp, hj⟩ := hrel
    have HIT := Lib.hid (iterSeen_of hr)
    have hrl : W.heap.size < wr.heap.size := (Array.getElem?_eq_some_iff.1 hr).1
    have law := run_next_at (P := Tryz.prog) wr 0 W.heap.size M clock clock seen es clock hr hb HCLK.out (Nat.le_refl _)
    rcases law with ⟨hz, hrun⟩ | ⟨e, he, w2, hw2, hrun⟩
    · have hnx : ∀ ty, (Instr.next (.pointer (some ⟨W.heap.size, 0, none⟩)) false ty).run Tryz.prog wr = _ := fun _ => hrun
      have hl : leftOf es seen = #[] := Array.eq_empty_of_size_eq_zero hz
      rw [hl] at hp
      have HP : Hid (ks.Perm (fs.map (·.k))) := by
        have h : (ks ++ eks (#[] : Array MapEntry).toList) = ks := List.append_nil _
        rw [h] at hp
        exact hp.trans HALL.out
      have HJ1 := Lib.hid hj
      clear hr hb hp hj hrun hz hl hrl
      gi_wp2
      go_end0
      exact ⟨⟨_, rfl⟩, ks, HP.out, HJ1.out⟩
    · obtain ⟨q, hq⟩ : ∃ q, q = decK e.key := ⟨_, rfl⟩
      have hkey := HKEY.out e (mem_left he).1
      rw [← hq] at hkey
      rw [hkey] at hrun
      have hnx : ∀ ty, (Instr.next (.pointer (some ⟨W.heap.size, 0, none⟩)) false ty).run Tryz.prog wr = _ := fun _ => hrun
      have hz2 : w2.heap = wr.heap := by rcases hw2 with rfl | rfl <;> rfl
      have hg2 : wr.grownBy w2 none := by rcases hw2 with rfl | rfl; exact ⟨rfl, rfl, rfl, Nat.le_refl _, fun _ _ _ => rfl⟩; exact grown_drew _
      have hj2 : J ks w2 := HJ.out ks wr w2 none hj hg2 (fun r e => by cases e)
      have hr3 := setBlock_same (w := w2) (r := W.heap.size) (.mapIter (some M) clock (seen.push e.born) clock) (by rw [hz2]; exact hrl)
      have hb3 : (setBlock w2 W.heap.size (.mapIter (some M) clock (seen.push e.born) clock)).heap[M]? = some (.map es clock) := (setBlock_other _ (by have := HBL.out; omega)).trans (by rw [hz2]; exact hb)
      have hen := run_entry_at (P := Tryz.prog) (setBlock w2 W.heap.size (.mapIter (some M) clock (seen.push e.born) clock)) W.heap.size M clock seen es clock e hr3 hb3 (mem_left he).1 HBORN.out
      rw [hkey] at hen
      have hj3 : J ks (setBlock w2 W.heap.size (.mapIter (some M) clock (seen.push e.born) clock)) := HJ.out ks w2 _ (some W.heap.size) hj2 (grown_block _ _ _) (fun r e => by cases e; exact ⟨Nat.le_refl _, _, by rw [hz2]; exact hr, rfl⟩)
      have HM : Hid ((leftOf es (seen.push e.born)).size < (leftOf es seen).size) := left_shrinks es seen e he
      have HP : Hid (((ks ++ [q]) ++ eks (leftOf es (seen.push e.born)).toList).Perm (eks es.toList)) := by rw [hq]; exact gathered hp (left_perm HBORN.out he)
      have HIT3 := Lib.hid (iterSeen_of hr3)
      generalize setBlock w2 W.heap.size (.mapIter (some M) clock (seen.push e.born) clock) = w3 at *
      have HR3 := Lib.hid hr3
      have HB3 := Lib.hid hb3
      have HJ3 := Lib.hid hj3
      have HLEN : Hid (ks.length < fs.length) := by
        show ks.length < fs.length
        have h1 := HP.out.length_eq
        have h2 := HALL.out.length_eq
        simp only [List.length_append, List.length_cons, List.length_nil, List.length_map] at h1 h2
        omega
      clear hr hb hp hrun hkey hw2 hz2 hr3 hb3 he hrl hj hg2 hj2 hj3 hq
      have hj4 : J ks (w3.alloc (.cells #[.int .u32 (q.a : Int), .int .u32 (q.b : Int), .int .u16 (q.p : Int), .int .u16 (q.q : Int), .int .u8 (q.r : Int)] 87)) := HJ.out ks w3 _ none HJ3.out (grown_alloc _ _) (fun r e => by cases e)
      obtain ⟨fn, tmps, assign, body, hy, hR⟩ := HY.out ks q _ hj4 HLEN.out
      have hr4 := (heap_alloc_old w3 (.cells #[.int .u32 (q.a : Int), .int .u32 (q.b : Int), .int .u16 (q.p : Int), .int .u16 (q.q : Int), .int .u8 (q.r : Int)] 87) (Array.getElem?_eq_some_iff.1 HR3.out).1).trans HR3.out
      have hb4 := (heap_alloc_old w3 (.cells #[.int .u32 (q.a : Int), .int .u32 (q.b : Int), .int .u16 (q.p : Int), .int .u16 (q.q : Int), .int .u8 (q.r : Int)] 87) (Array.getElem?_eq_some_iff.1 HB3.out).1).trans HB3.out
      have HR4 := Lib.hid hr4
      have HB4 := Lib.hid hb4
      clear hj4 hr4 hb4
      replace hy : (Instr.yield l #[.agg #[.int .u32 (q.a : Int), .int .u32 (q.b : Int), .int .u16 (q.p : Int), .int .u16 (q.q : Int), .int .u8 (q.r : Int)]]).run Tryz.prog (w3.alloc (.cells #[.int .u32 (q.a : Int), .int .u32 (q.b : Int), .int .u16 (q.p : Int), .int .u16 (q.q : Int), .int .u8 (q.r : Int)] 87)) = .ok (.round l fn tmps assign body) _ := hy
      gi_wp2
      refine hR.mono ?_
      rintro e5 W5 ⟨rfl, hj5, hk5⟩
      have HR5 := Lib.hid (hk5.same _ _ HR4.out rfl)
      have HB5 := Lib.hid (hk5.same _ _ HB4.out rfl)
      have HJ5 := Lib.hid hj5
      clear hy hR hj5 hk5 hen hnx
      gi_wp2
      go_roundw
      case rel => exact ⟨_, _, HR5.out, HB5.out, HP.out, HJ5.out⟩
      case measure => rw [iterSeen_of HR5.out, HIT.out]; exact HM.out
end Tb
end Go.Proofs.YtcockldefmmhbaaGreatDoor
