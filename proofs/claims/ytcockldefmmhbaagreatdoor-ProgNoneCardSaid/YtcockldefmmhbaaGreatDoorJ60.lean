/- Several texts of this proof in one file, each in its own namespace. -/
import Derived.Test.YtcockldefmmhbaaGreatDoorJ46
import Derived.Test.YtcockldefmmhbaaGreatDoorJ43
import Derived.Test.YtcockldefmmhbaaGreatDoorJ59
import Derived.Test.YtcockldefmmhbaaGreatDoorMemE
import Derived.Test.YtcockldefmmhbaaGreatDoorJ26
import Derived.Test.YtcockldefmmhbaaGreatDoorFsmB
import Derived.Test.YtcockldefmmhbaaGreatDoorJ30
import Derived.Test.YtcockldefmmhbaaGreatDoorFloB
import Derived.Test.YtcockldefmmhbaaGreatDoorJ38
import Derived.Test.YtcockldefmmhbaaGreatDoorJ9
import Derived.Test.YtcockldefmmhbaaGreatDoorJ37
import Derived.Test.YtcockldefmmhbaaGreatDoorJ33
/- Layer 20: a table's flows, stripe by stripe; the table in its blocks, with its memory. -/
set_option linter.unusedVariables false
set_option linter.unusedSimpArgs false
set_option maxRecDepth 100000
namespace Go.Proofs.YtcockldefmmhbaaGreatDoor
open Go.ChangeShapes Go.WideShapes Go.ChangeAt Go.RowKit Go.Mtl Go.Lib
namespace Tb
open TabM
open KeyM (isPow hashN strN)
open MemM (Ms holdV touchS)
open Me (ptr)
/-- Four results. -/
theorem results_four {fn : Func} {t u v x : Tmp} (h : fn.results = #[.tmp t, .tmp u, .tmp v, .tmp x]) (tmps : Array Value) (P : Program) (w : World) :
    (results fn tmps).run P w = .ok (.tuple #[tmps.getD t undef, tmps.getD u undef, tmps.getD v undef, tmps.getD x undef]) w := by
  simp [results, h, go_sem]
/-- The stripe of a key. -/
def sOf (n : Nat) (k : AutM.Ke) : Nat := hashN k.a k.b k.p k.q k.r % n
/-- A stripe's flows. -/
def partG (c : AutM.Ke → Nat) (i : Nat) (fs : List Fl) : List Fl := fs.filter fun f => decide (c f.k = i)
abbrev part (n i : Nat) (fs : List Fl) : List Fl := partG (sOf n) i fs
/-- A flow put: in place of one with its key, or where its key stands. -/
def upd (g : Fl) (fs : List Fl) : List Fl := if (find g.k fs).isSome then put g fs else ins g fs
theorem upd_some {g f : Fl} {fs : List Fl} (h : find g.k fs = some f) : upd g fs = put g fs := by unfold upd; rw [h]; rfl
theorem upd_none {g : Fl} {fs : List Fl} (h : find g.k fs = none) : upd g fs = ins g fs := by unfold upd; rw [h]; rfl
theorem oks_upd {fs : List Fl} (h : Oks fs) {g : Fl} (hg : g.Ok) : Oks (upd g fs) := by
  cases hf : find g.k fs with
  | some f => rw [upd_some hf]; exact h.put hg
  | none => rw [upd_none hf]; exact h.ins hg hf
theorem sOf_lt {n : Nat} (hn : 0 < n) (k : AutM.Ke) : sOf n k < n := Nat.mod_lt _ hn
theorem mem_part {c : AutM.Ke → Nat} {i : Nat} {fs : List Fl} {f : Fl} : f ∈ partG c i fs ↔ f ∈ fs ∧ c f.k = i := by unfold partG; simp
theorem oks_part {fs : List Fl} (h : Oks fs) (c : AutM.Ke → Nat) (i : Nat) : Oks (partG c i fs) := ⟨fun f hf => h.ok f (mem_part.1 hf).1, List.Pairwise.filter _ h.srt⟩
theorem find_part {fs : List Fl} (h : Oks fs) (c : AutM.Ke → Nat) (k : AutM.Ke) : find k (partG c (c k) fs) = find k fs := by
  cases hf : find k fs with
  | some f =>
    obtain ⟨hm, hk⟩ := find_some hf
    have := (oks_part h c (c k)).find_of (mem_part.2 ⟨hm, by rw [hk]⟩)
    rwa [hk] at this
  | none =>
    unfold find
    rw [List.find?_eq_none]
    intro f hm
    simpa using find_none hf f (mem_part.1 hm).1
theorem part_drop (c : AutM.Ke → Nat) (i : Nat) (k : AutM.Ke) (fs : List Fl) : partG c i (drop k fs) = drop k (partG c i fs) := by
  unfold partG TabM.drop
  rw [List.filter_filter, List.filter_filter]
  congr 1
  funext f
  exact Bool.and_comm _ _
theorem part_drop_ne {c : AutM.Ke → Nat} {i : Nat} {k : AutM.Ke} (h : c k ≠ i) (fs : List Fl) : partG c i (drop k fs) = partG c i fs := by
  rw [part_drop]
  unfold TabM.drop
  rw [List.filter_eq_self]
  intro f hf
  have h2 := (mem_part.1 hf).2
  simp only [decide_eq_true_eq]
  intro e; rw [e] at h2; exact h h2
theorem part_put (c : AutM.Ke → Nat) (i : Nat) (g : Fl) (fs : List Fl) : partG c i (put g fs) = put g (partG c i fs) := by
  unfold partG TabM.put
  rw [List.filter_map]
  refine congrArg (List.map _) (List.filter_congr fun f _ => ?_)
  show decide (c (if f.k = g.k then g else f).k = i) = _
  split
  · rename_i e; rw [e]
  · rfl
theorem put_none {g : Fl} {fs : List Fl} (h : ∀ f ∈ fs, f.k ≠ g.k) : put g fs = fs := by
  unfold TabM.put
  exact (List.map_congr_left (g := id) fun x hx => by rw [if_neg (h x hx)]; rfl).trans (List.map_id fs)
theorem part_put_ne {c : AutM.Ke → Nat} {i : Nat} {g : Fl} (h : c g.k ≠ i) (fs : List Fl) : partG c i (put g fs) = partG c i fs := by
  rw [part_put]
  exact put_none fun f hf e => h (by rw [← e]; exact (mem_part.1 hf).2)
theorem part_ins (c : AutM.Ke → Nat) (i : Nat) (g : Fl) (fs : List Fl) : (partG c i (ins g fs)).Perm (if c g.k = i then g :: partG c i fs else partG c i fs) := by
  refine ((ins_perm g fs).filter _).trans ?_
  rw [List.filter_cons]
  by_cases h : c g.k = i
  · rw [if_pos (by simpa using h), if_pos h]; exact List.Perm.refl _
  · rw [if_neg (by simpa using h), if_neg h]; exact List.Perm.refl _
theorem part_upd_ne {c : AutM.Ke → Nat} {i : Nat} {g : Fl} (h : c g.k ≠ i) (fs : List Fl) : (partG c i fs).Perm (partG c i (upd g fs)) := by
  unfold upd
  split
  · rw [part_put_ne h]
  · have := part_ins c i g fs
    rw [if_neg h] at this
    exact this.symm
theorem part_upd {c : AutM.Ke → Nat} {g : Fl} {fs : List Fl} (ho : Oks fs) : (upd g (partG c (c g.k) fs)).Perm (partG c (c g.k) (upd g fs)) := by
  have hf := find_part ho c g.k
  unfold upd
  rw [hf]
  split
  · rw [part_put]
  · have := part_ins c (c g.k) g fs
    rw [if_pos rfl] at this
    exact (ins_perm g _).trans this.symm
theorem len_upd (g : Fl) (fs : List Fl) : (upd g fs).length ≤ fs.length + 1 := by
  unfold upd; split
  · rw [len_put]; omega
  · rw [len_ins]; exact Nat.le_refl _
theorem len_drop_le (k : AutM.Ke) (fs : List Fl) : (drop k fs).length ≤ fs.length := by unfold TabM.drop; exact List.length_filter_le _ _

/-- What lies in the blocks of a table: its own block B, the row S of its stripes, the map of each stripe; O are the blocks that are its own. -/
structure TR (w : World) (O : Nat → Prop) (B mb n S : Nat) (M : Nat → Nat) (fs : List Fl) : Prop where
  blk : Blk w B #[ptr mb, .slice (some ⟨S, 0, none⟩) n n] 131
  row : ∀ i, i < n → w.cell? ⟨S, i, none⟩ = some (.map (some (M i)))
  map : ∀ i, i < n → MapAt w (M i) (part n i fs)
  inj : ∀ i j, i < n → j < n → M i = M j → i = j
  ns : S ≠ B
  nm : ∀ i, i < n → M i ≠ B ∧ M i ≠ S
  ob : O B
  os : O S
  om : ∀ i, i < n → O (M i)
  lt : ∀ j, O j → j < w.heap.size
section
variable {w w' : World} {O O' : Nat → Prop} {B mb n S : Nat} {M : Nat → Nat} {fs fs' : List Fl}
theorem TR.keep (H : TR w O B mb n S M fs) (hs : w.heap.size ≤ w'.heap.size) (h : ∀ k, O k → w'.heap[k]? = w.heap[k]?) : TR w' O B mb n S M fs where
  blk := H.blk.keep (h _ H.ob)
  row := fun i hi => (World.cell?_of_block (w := w) (a := ⟨S, i, none⟩) (h S H.os)).trans (H.row i hi)
  map := fun i hi => (H.map i hi).keep (h _ (H.om i hi))
  inj := H.inj
  ns := H.ns
  nm := H.nm
  ob := H.ob
  os := H.os
  om := H.om
  lt := fun j hj => Nat.lt_of_lt_of_le (H.lt j hj) hs
theorem TR.far (H : TR w O B mb n S M fs) (h : Only O' w w') (hd : ∀ j, O j → ¬ O' j) : TR w' O B mb n S M fs := H.keep h.size fun k hk => h.block k (H.lt k hk) (hd k hk)
theorem TR.next (H : TR w O B mb n S M fs) (hb : Below w.heap.size w w') : TR w' O B mb n S M fs := H.far (O' := fun _ => False) (Only.of_below hb) (fun _ _ e => e)
/-- One stripe's map turns. -/
theorem TR.turn (H : TR w O B mb n S M fs) {i : Nat} (hi : i < n) (ho : Only (· = M i) w w') (hm : MapAt w' (M i) (part n i fs')) (hp : ∀ j, j < n → j ≠ i → (part n j fs).Perm (part n j fs')) : TR w' O B mb n S M fs' where
  blk := H.blk.only ho (fun e => (H.nm i hi).1 e.symm)
  row := fun j hj => (ho.cell (p := ⟨S, j, none⟩) (H.lt _ H.os) (fun e => (H.nm i hi).2 e.symm)).trans (H.row j hj)
  map := fun j hj => by
    by_cases e : j = i
    · subst e; exact hm
    · exact ((H.map j hj).keep (ho.block _ (H.lt _ (H.om j hj)) (fun e2 => e (H.inj j i hj hi e2)))).perm (hp j hj e)
  inj := H.inj
  ns := H.ns
  nm := H.nm
  ob := H.ob
  os := H.os
  om := H.om
  lt := fun j hj => Nat.lt_of_lt_of_le (H.lt j hj) ho.size
end
/-- Block B holds a table of n stripes on the memory of block mb. -/
def TAt (w : World) (O : Nat → Prop) (B mb n : Nat) (fs : List Fl) : Prop := (∃ S M, TR w O B mb n S M fs) ∧ Oks fs ∧ isPow (n : Int) = true
section
variable {w w' : World} {O O' : Nat → Prop} {B mb n : Nat} {fs : List Fl}
theorem TAt.far (H : TAt w O B mb n fs) (h : Only O' w w') (hd : ∀ j, O j → ¬ O' j) : TAt w' O B mb n fs := by
  obtain ⟨⟨S, M, h1⟩, h2⟩ := H
  exact ⟨⟨S, M, h1.far h hd⟩, h2⟩
theorem TAt.next (H : TAt w O B mb n fs) (hb : Below w.heap.size w w') : TAt w' O B mb n fs := H.far (O' := fun _ => False) (Only.of_below hb) (fun _ _ e => e)
theorem TAt.lt_ (H : TAt w O B mb n fs) : ∀ j, O j → j < w.heap.size := by obtain ⟨⟨S, M, h1⟩, h2⟩ := H; exact h1.lt
theorem TAt.pos (H : TAt w O B mb n fs) : 1 ≤ n ∧ n ≤ 4096 := by have := KeyM.isPow_bd H.2.2; omega
end
/-- A world, and what lies in some blocks that no one else may turn. -/
structure Fw extends World where
  F : Nat → Obj → Prop
  lo : Nat := 0
/-- One block more. -/
def Fw.add (w : Fw) (g : Nat) (o : Obj) : Fw := { w with F := fun j x => w.F j x ∨ (j = g ∧ x = o) }
/-- All blocks of O more, as they lie in W. -/
def Fw.with (w : Fw) (O : Nat → Prop) (W : World) : Fw := { w with F := fun j x => w.F j x ∨ (O j ∧ W.heap[j]? = some x) }
/-- A memory and a table on it, apart, made since world w. -/
structure TM (w : Fw) (Om Ot : Nat → Prop) (mb B : Nat) (ms : Ms) (n : Nat) (fs : List Fl) (W : World) : Prop where
  mem : Me.MAt W Om mb ms
  tab : TAt W Ot B mb n fs
  bel : Below w.heap.size w.toWorld W
  nm : ∀ j, Om j → w.heap.size ≤ j
  nt : ∀ j, Ot j → w.heap.size ≤ j
  dis : ∀ j, Om j → ¬ Ot j
  fr : ∀ j o, w.F j o → W.heap[j]? = some o
  nf : ∀ j o, w.F j o → ¬ Om j ∧ ¬ Ot j
  sz : w.lo ≤ W.heap.size
section
variable {w : Fw} {W w' : World} {Om Ot O' : Nat → Prop} {mb B : Nat} {ms ms' : Ms} {n : Nat} {fs fs' : List Fl}
theorem some_lt {W : World} {j : Nat} {o : Obj} (h : W.heap[j]? = some o) : j < W.heap.size := (Array.getElem?_eq_some_iff.1 h).1
theorem TM.next (H : TM w Om Ot mb B ms n fs W) (hb : Below W.heap.size W w') : TM w Om Ot mb B ms n fs w' := ⟨H.mem.next hb, H.tab.next hb, H.bel.trans (hb.mono H.bel.size), H.nm, H.nt, H.dis, fun j o h => (hb.block j (some_lt (H.fr j o h))).trans (H.fr j o h), H.nf, Nat.le_trans H.sz hb.size⟩
theorem TM.left (H : TM w Om Ot mb B ms n fs W) (hp : Me.MAt w' O' mb ms') (ho : Only Om W w') (hO : ∀ j, O' j → Om j ∨ W.heap.size ≤ j) : TM w O' Ot mb B ms' n fs w' :=
  ⟨hp, H.tab.far ho (fun j hb ha => H.dis j ha hb), H.bel.trans (ho.below H.nm H.bel.size), fun j hj => (hO j hj).elim (H.nm j) (fun h => Nat.le_trans H.bel.size h), H.nt, fun j hj hb => (hO j hj).elim (fun h => H.dis j h hb) (fun h => by have := H.tab.lt_ j hb; omega),
    fun j o h => (ho.block j (some_lt (H.fr j o h)) (H.nf j o h).1).trans (H.fr j o h), fun j o h => ⟨fun hj => (hO j hj).elim (H.nf j o h).1 (fun e => by have := some_lt (H.fr j o h); omega), (H.nf j o h).2⟩, Nat.le_trans H.sz ho.size⟩
theorem TM.right (H : TM w Om Ot mb B ms n fs W) (hp : TAt w' Ot B mb n fs') (ho : Only Ot W w') : TM w Om Ot mb B ms n fs' w' :=
  ⟨H.mem.far ho H.dis, hp, H.bel.trans (ho.below H.nt H.bel.size), H.nm, H.nt, H.dis, fun j o h => (ho.block j (some_lt (H.fr j o h)) (H.nf j o h).2).trans (H.fr j o h), H.nf, Nat.le_trans H.sz ho.size⟩
/-- A block that came is kept from now on. -/
theorem TM.add (H : TM w Om Ot mb B ms n fs W) (o : Obj) : TM (w.add W.heap.size o) Om Ot mb B ms n fs (W.alloc o) := by
  have h := H.next (w' := W.alloc o) ((Below.refl _ W).alloc (Nat.le_refl _) o)
  refine ⟨h.mem, h.tab, h.bel, h.nm, h.nt, h.dis, fun j x hx => ?_, fun j x hx => ?_, h.sz⟩
  · rcases hx with hx | ⟨rfl, rfl⟩
    · exact h.fr j x hx
    · exact heap_alloc_new W _
  · rcases hx with hx | ⟨rfl, rfl⟩
    · exact h.nf j x hx
    · exact ⟨fun e => Nat.lt_irrefl _ (H.mem.lt _ e), fun e => Nat.lt_irrefl _ (H.tab.lt_ _ e)⟩
theorem TM.drop {g : Nat} {o : Obj} (H : TM (w.add g o) Om Ot mb B ms n fs W) : TM w Om Ot mb B ms n fs W := ⟨H.mem, H.tab, H.bel, H.nm, H.nt, H.dis, fun j x h => H.fr j x (.inl h), fun j x h => H.nf j x (.inl h), H.sz⟩
theorem TM.box {g : Nat} {cs : Array Value} {t : TypeId} (H : TM (w.add g (.cells cs t (0, 0))) Om Ot mb B ms n fs W) : Blk W g cs t := H.fr g _ (.inr ⟨rfl, rfl⟩)
theorem TM.with {O : Nat → Prop} (H : TM w Om Ot mb B ms n fs W) (h : ∀ j, O j → ¬ Om j ∧ ¬ Ot j) : TM (w.with O W) Om Ot mb B ms n fs W :=
  ⟨H.mem, H.tab, H.bel, H.nm, H.nt, H.dis, fun j x hx => hx.elim (H.fr j x) fun e => e.2, fun j x hx => hx.elim (H.nf j x) fun e => h j e.1, H.sz⟩
theorem TM.without {O : Nat → Prop} {W0 : World} (H : TM (w.with O W0) Om Ot mb B ms n fs W) (hlt : ∀ j, O j → j < W0.heap.size) : TM w Om Ot mb B ms n fs W ∧ (∀ j, O j → W.heap[j]? = W0.heap[j]?) ∧ ∀ j, O j → ¬ Om j ∧ ¬ Ot j := by
  have get : ∀ j, O j → ∃ o, W0.heap[j]? = some o := fun j hj => ⟨_, Array.getElem?_eq_getElem (hlt j hj)⟩
  refine ⟨⟨H.mem, H.tab, H.bel, H.nm, H.nt, H.dis, fun j x h => H.fr j x (.inl h), fun j x h => H.nf j x (.inl h), H.sz⟩, fun j hj => ?_, fun j hj => ?_⟩
  · obtain ⟨o, ho⟩ := get j hj
    exact (H.fr j o (.inr ⟨hj, ho⟩)).trans ho.symm
  · obtain ⟨o, ho⟩ := get j hj
    exact H.nf j o (.inr ⟨hj, ho⟩)
end
/-- Does a thread hold a mutex? -/
def heldB (ms : Ms) (t i : Int) : Bool := decide (0 ≤ t) && (holdV ms i == t)
/-- What a method answers and leaves. -/
def Td (w : Fw) (Ot : Nat → Prop) (mb B : Nat) (v : Value) (ms : Ms) (n : Nat) (fs : List Fl) : Ending → World → Prop := fun e w' => ∃ Om, e = .returned v ∧ TM w Om Ot mb B ms n fs w'
section
variable {w : Fw} {W : World} {Om Ot : Nat → Prop} {mb B : Nat} {ms : Ms} {n : Nat} {fs : List Fl}
theorem holds_any (H : TM w Om Ot mb B ms n fs W) (t i : Int) : Calls Tryz.prog 173 #[ptr B, .int .i64 t, .int .i64 i] W fun e w' => e = .returned (.bool (heldB ms t i)) ∧ W = w' := by
  have HH := Lib.hid (Me.holder_any H.mem i)
  obtain ⟨⟨S, M, h1⟩, h2⟩ := H.tab
  have c0 := h1.blk.cell 0 _ rfl
  obtain ⟨hv, hhv⟩ : ∃ v, holdV ms i = v := ⟨_, rfl⟩
  rw [hhv] at HH
  unfold heldB
  rw [hhv]
  clear H h1 h2 hhv
  by_cases h : 0 ≤ t
  · rw [decide_eq_true h, Bool.true_and]
    have d1 : decide (0 ≤ t) = true := decide_eq_true h
    obtain ⟨b, hb⟩ : ∃ b, (hv == t) = b := ⟨_, rfl⟩
    rw [hb]
    clear h
    go_enter Tryz.func173, Tryz.ntmps173
    go_wp2_with fail
    go_at_call 48
    refine HH.out.mono ?_
    rintro e w' ⟨rfl, rfl⟩
    go_wp2_with fail
    go_ret
    exact ⟨by first | rfl | (rw [← hb]; rfl), rfl⟩
  · rw [decide_eq_false h, Bool.false_and]
    have d1 : decide (0 ≤ t) = false := decide_eq_false h
    clear h
    go_enter Tryz.func173, Tryz.ntmps173
    go_wp2_with fail
    go_ret
    exact ⟨rfl, rfl⟩
end
end Tb
end Go.Proofs.YtcockldefmmhbaaGreatDoor
/- Layer 20: the program's stripeOf, Find, Put, Remove. (Written by wip/tools/mkTabB.py.) -/
set_option linter.unusedVariables false
set_option linter.unusedSimpArgs false
set_option maxRecDepth 100000
namespace Go.Proofs.YtcockldefmmhbaaGreatDoor
open Go.ChangeShapes Go.WideShapes Go.ChangeAt Go.RowKit Go.Mtl Go.Lib
namespace Tb
open TabM
open KeyM (isPow hashN strN)
open MemM (Ms holdV touchS)
open Me (ptr)
theorem below_box (w : World) (o : Obj) : Below w.heap.size w (w.alloc o) := (Below.refl _ w).alloc (Nat.le_refl _) o
theorem str_is {n : Nat} (hn : isPow (n : Int) = true) (k : AutM.Ke) : strN (hashN k.a k.b k.p k.q k.r) (n : Int) = ((sOf n k : Nat) : Int) := by
  rw [KeyM.strN_yes hn]
  unfold sOf
  omega
section
variable {w : Fw} {W : World} {Om Ot : Nat → Prop} {mb B : Nat} {ms : Ms} {n : Nat} {fs : List Fl}
set_option maxHeartbeats 2000000 in
theorem stripeOf_any (H : TM w Om Ot mb B ms n fs W) (t : Int) (k : AutM.Ke) (hk : k.Ok) (i : Nat) (hi : sOf n k = i) (vi ve : Int) (hv : (heldB ms t (i : Int) = true ∧ vi = (i : Int) ∧ ve = 0) ∨ (heldB ms t (i : Int) = false ∧ vi = 0 ∧ ve = 13)) :
    Calls Tryz.prog 203 #[ptr B, .int .i64 t, Au.kyV k] W fun e w' => e = .returned (.tuple #[.int .i64 vi, .int .i64 ve]) ∧ Below W.heap.size W w' := by
  have HST : Hid (∀ W, Calls Tryz.prog 66 #[.agg (Ky.kyc k.a k.b k.p k.q k.r), .int .i64 (n : Int)] W fun e w' => e = .returned (.int .i64 (i : Int)) ∧ Below W.heap.size W w') := fun W =>
    Ky.stripe_any k.a k.b k.p k.q k.r (n : Int) hk.a hk.b hk.p hk.q hk.r _ rfl _ (by rw [str_is H.tab.2.2, hi]) W
  have HX := Lib.hid (Blk.box W (Ky.kyc k.a k.b k.p k.q k.r) 87)
  have HB := Lib.hid (below_box W (.cells (Ky.kyc k.a k.b k.p k.q k.r) 87))
  have HH1 := Lib.hid (H.next (below_box W (.cells (Ky.kyc k.a k.b k.p k.q k.r) 87)))
  have hn1 : n ≤ 4096 := H.tab.pos.2
  clear H hk hi
  go_enter Tryz.func203, Tryz.ntmps203
  go_wp2_with fail
  obtain ⟨W1, hW1⟩ : ∃ v, W.alloc (.cells (Ky.kyc k.a k.b k.p k.q k.r) 87) = v := ⟨_, rfl⟩
  rw [hW1] at HX HB HH1 ⊢
  clear hW1
  obtain ⟨⟨S, M, htr⟩, _⟩ := HH1.out.tab
  have HTR := Lib.hid htr
  clear htr
  refine wp_region_held_drew (S := fun w' => Hid (Below W1.heap.size W1 w')) (by kernel_rfl) (Lib.hid (Below.refl _ W1).drew) (fun hH => ?_)
  refine wpAnyH_take (i := 0) (oi := ⟨some 11, _, _, _, _, _⟩) (v := ?v1) rfl (by kernel_rfl) (by kernel_rfl) (by kernel_rfl) (fun _ _ _ h => h) (Or.inl ⟨rfl, ?c1⟩) hH ?r1
  case c1 => (intro w' hS; obtain ⟨x0, x1, x2, x3, x4⟩ := Ky.ky_cells (HX.out.next hS.out); go_simp; (try with_reducible rfl))
  try simp only [Act.put, List.setIfInBounds_toArray, List.set_cons_zero, List.set_cons_succ]
  refine wpAnyH_take (i := 1) (oi := ⟨some 12, _, _, _, _, _⟩) (v := ?v2) rfl (by kernel_rfl) (by kernel_rfl) (by kernel_rfl) (fun _ _ _ h => h) (Or.inl ⟨rfl, ?c2⟩) hH ?r2
  case c2 => (intro w' _; go_simp; (try with_reducible rfl))
  try simp only [Act.put, List.setIfInBounds_toArray, List.set_cons_zero, List.set_cons_succ]
  refine wpAnyH_take (i := 2) (oi := ⟨some 13, _, _, _, _, _⟩) (v := ?v3) rfl (by kernel_rfl) (by kernel_rfl) (by kernel_rfl) (fun _ _ _ h => h) (Or.inl ⟨rfl, ?c3⟩) hH ?r3
  case c3 => (intro w' _; go_simp; (try with_reducible rfl))
  try simp only [Act.put, List.setIfInBounds_toArray, List.set_cons_zero, List.set_cons_succ]
  refine wpAnyH_take (i := 3) (oi := ⟨some 14, _, _, _, _, _⟩) (v := ?v4) rfl (by kernel_rfl) (by kernel_rfl) (by kernel_rfl) (fun _ _ _ h => h) (Or.inl ⟨rfl, ?c4⟩) hH ?r4
  case c4 => (intro w' _; go_simp; (try with_reducible rfl))
  try simp only [Act.put, List.setIfInBounds_toArray, List.set_cons_zero, List.set_cons_succ]
  refine wpAnyH_take (i := 4) (oi := ⟨some 15, _, _, _, _, _⟩) (v := ?v5) rfl (by kernel_rfl) (by kernel_rfl) (by kernel_rfl) (fun _ _ _ h => h) (Or.inl ⟨rfl, ?c5⟩) hH ?r5
  case c5 => (intro w' hS; have c1 := (HTR.out.next hS.out).blk.cell 1 _ rfl; go_simp; (try with_reducible rfl))
  try simp only [Act.put, List.setIfInBounds_toArray, List.set_cons_zero, List.set_cons_succ]
  refine wpAnyH_take (i := 5) (oi := ⟨some 16, _, _, _, _, _⟩) (v := ?v6) rfl (by kernel_rfl) (by kernel_rfl) (by kernel_rfl) (fun _ _ _ h => h) (Or.inl ⟨rfl, ?c6⟩) hH ?r6
  case c6 => (intro w' _; go_simp; (try with_reducible rfl))
  try simp only [Act.put, List.setIfInBounds_toArray, List.set_cons_zero, List.set_cons_succ]
  refine wpAnyH_ready (rs := [6]) (by kernel_rfl) (by simp) (AllReadyH.cons rfl (fun K hK => ?_) (AllReadyH.nil))
  go_simp
  go_at_call 66
  refine (HST.out _).mono ?_
  rintro e w2 ⟨rfl, hbp⟩
  refine hK.out _ _ (Lib.hid (hH.out.trans (hbp.mono hH.out.size))) (fun hH => ?_)
  clear hK K
  clear hbp
  try simp only [Act.put, List.setIfInBounds_toArray, List.set_cons_zero, List.set_cons_succ]
  refine wpAnyH_take (i := 7) (oi := ⟨some 8, _, _, _, _, _⟩) (v := ?v7) rfl (by kernel_rfl) (by kernel_rfl) (by kernel_rfl) (fun _ _ _ h => h) (Or.inl ⟨rfl, ?c7⟩) hH ?r7
  case c7 => (intro w' _; go_simp; (try with_reducible rfl))
  try simp only [Act.put, List.setIfInBounds_toArray, List.set_cons_zero, List.set_cons_succ]
  refine wpAnyH_done (by kernel_rfl) ?_ _
  have H2 := Lib.hid (HH1.out.next hH.out)
  have HB2 := Lib.hid (HB.out.trans (hH.out.mono HB.out.size))
  clear hH HH1 HTR HX HB
  go_wp2_with fail
  go_at_call 173
  refine (holds_any H2.out t (i : Int)).mono ?_
  rcases hv with ⟨hb, rfl, rfl⟩ | ⟨hb, rfl, rfl⟩
  · rw [hb]
    rintro e w3 ⟨rfl, rfl⟩
    clear hb
    go_wp2_with fail
    go_ret2
    exact ⟨rfl, HB2.out⟩
  · rw [hb]
    rintro e w3 ⟨rfl, rfl⟩
    clear hb
    go_wp2_with fail
    go_ret2
    exact ⟨rfl, HB2.out⟩
/-- The table at W1 with its parts, the key's box. -/
structure TQ (w : Fw) (Om Ot : Nat → Prop) (mb B : Nat) (ms : Ms) (n S : Nat) (M : Nat → Nat) (fs : List Fl) (k : AutM.Ke) (gk : Nat) (W : World) : Prop where
  tm : TM w Om Ot mb B ms n fs W
  tr : TR W Ot B mb n S M fs
  key : Blk W gk (Ky.kyc k.a k.b k.p k.q k.r) 87
  nk : ¬ Ot gk
end
section
variable {w : Fw} {W w' : World} {Om Ot O' : Nat → Prop} {mb B : Nat} {ms ms' : Ms} {n S : Nat} {M : Nat → Nat} {fs fs' : List Fl} {k : AutM.Ke} {gk : Nat}
theorem TQ.next (H : TQ w Om Ot mb B ms n S M fs k gk W) (hb : Below W.heap.size W w') : TQ w Om Ot mb B ms n S M fs k gk w' := ⟨H.tm.next hb, H.tr.next hb, H.key.next hb, H.nk⟩
theorem TQ.drew (H : TQ w Om Ot mb B ms n S M fs k gk W) : TQ w Om Ot mb B ms n S M fs k gk W.drew := H.next (Below.refl _ W).drew
theorem TM.parts (H : TM w Om Ot mb B ms n fs W) : ∃ S M, TR W Ot B mb n S M fs := H.tab.1
theorem TM.okf (H : TM w Om Ot mb B ms n fs W) : Oks fs := H.tab.2.1
end
section
variable {w : Fw} {W : World} {Om Ot : Nat → Prop} {mb B : Nat} {ms : Ms} {n : Nat} {fs : List Fl}
set_option maxHeartbeats 2000000 in
theorem find_no (H : TM w Om Ot mb B ms n fs W) (t : Int) (k : AutM.Ke) (hk : k.Ok) (i : Nat) (hi : sOf n k = i) (hh : heldB ms t (i : Int) = false) :
    Calls Tryz.prog 150 #[ptr B, .int .i64 t, Au.kyV k] W (Td w Ot mb B (.tuple #[.int .i64 0, .bool false, .bool false, .int .i64 13]) ms n fs) := by
  have HS : Hid (∀ W', TM w Om Ot mb B ms n fs W' → Calls Tryz.prog 203 #[ptr B, .int .i64 t, Au.kyV k] W' fun e w' => e = .returned (.tuple #[.int .i64 0, .int .i64 13]) ∧ Below W'.heap.size W' w') := fun W' h => stripeOf_any h t k hk i hi 0 13 (.inr ⟨hh, rfl, rfl⟩)
  have HX := Lib.hid (Blk.box W (Ky.kyc k.a k.b k.p k.q k.r) 87)
  have H1 := Lib.hid (H.next (below_box W (.cells (Ky.kyc k.a k.b k.p k.q k.r) 87)))
  clear H hk hi hh
  go_enter Tryz.func150, Tryz.ntmps150
  go_wp2_with fail
  go_at_call 203
  refine (HS.out _ H1.out).mono ?_
  rintro e w2 ⟨rfl, hb⟩
  have H2 := Lib.hid (H1.out.next hb)
  clear hb H1 HX
  go_wp2_with fail
  (try simp only [Exit.inBlock, Exit.then]); refine bodyPost_ret (results_four rfl _ _ _) rfl ?_
  exact ⟨_, rfl, H2.out⟩
set_option maxHeartbeats 2000000 in
theorem put_no (H : TM w Om Ot mb B ms n fs W) (t : Int) (k : AutM.Ke) (hk : k.Ok) (x : Int) (d : Bool) (i : Nat) (hi : sOf n k = i) (hh : heldB ms t (i : Int) = false) :
    Calls Tryz.prog 201 #[ptr B, .int .i64 t, Au.kyV k, .int .i64 x, .bool d] W (Td w Ot mb B (.int .i64 13) ms n fs) := by
  have HS : Hid (∀ W', TM w Om Ot mb B ms n fs W' → Calls Tryz.prog 203 #[ptr B, .int .i64 t, Au.kyV k] W' fun e w' => e = .returned (.tuple #[.int .i64 0, .int .i64 13]) ∧ Below W'.heap.size W' w') := fun W' h => stripeOf_any h t k hk i hi 0 13 (.inr ⟨hh, rfl, rfl⟩)
  have HX := Lib.hid (Blk.box W (Ky.kyc k.a k.b k.p k.q k.r) 87)
  have H1 := Lib.hid (H.next (below_box W (.cells (Ky.kyc k.a k.b k.p k.q k.r) 87)))
  clear H hk hi hh
  go_enter Tryz.func201, Tryz.ntmps201
  go_wp2_with fail
  go_at_call 203
  refine (HS.out _ H1.out).mono ?_
  rintro e w2 ⟨rfl, hb⟩
  have H2 := Lib.hid (H1.out.next hb)
  clear hb H1 HX
  go_wp2_with fail
  go_ret
  exact ⟨_, rfl, H2.out⟩
set_option maxHeartbeats 2000000 in
theorem remove_no (H : TM w Om Ot mb B ms n fs W) (t : Int) (k : AutM.Ke) (hk : k.Ok) (i : Nat) (hi : sOf n k = i) (hh : heldB ms t (i : Int) = false) :
    Calls Tryz.prog 170 #[ptr B, .int .i64 t, Au.kyV k] W (Td w Ot mb B (.int .i64 13) ms n fs) := by
  have HS : Hid (∀ W', TM w Om Ot mb B ms n fs W' → Calls Tryz.prog 203 #[ptr B, .int .i64 t, Au.kyV k] W' fun e w' => e = .returned (.tuple #[.int .i64 0, .int .i64 13]) ∧ Below W'.heap.size W' w') := fun W' h => stripeOf_any h t k hk i hi 0 13 (.inr ⟨hh, rfl, rfl⟩)
  have HX := Lib.hid (Blk.box W (Ky.kyc k.a k.b k.p k.q k.r) 87)
  have H1 := Lib.hid (H.next (below_box W (.cells (Ky.kyc k.a k.b k.p k.q k.r) 87)))
  clear H hk hi hh
  go_enter Tryz.func170, Tryz.ntmps170
  go_wp2_with fail
  go_at_call 203
  refine (HS.out _ H1.out).mono ?_
  rintro e w2 ⟨rfl, hb⟩
  have H2 := Lib.hid (H1.out.next hb)
  clear hb H1 HX
  go_wp2_with fail
  go_ret
  exact ⟨_, rfl, H2.out⟩
set_option maxHeartbeats 4000000 in
theorem find_yes (H : TM w Om Ot mb B ms n fs W) (hl : ms.ls.length ≤ 1000000000000) (t : Int) (k : AutM.Ke) (hk : k.Ok) (x : Int) (d b : Bool) (i : Nat) (hi : sOf n k = i) (hh : heldB ms t (i : Int) = true) (hf : (∃ f, find k fs = some f ∧ x = f.x ∧ d = f.dn ∧ b = true) ∨ (find k fs = none ∧ x = 0 ∧ d = false ∧ b = false)) :
    Calls Tryz.prog 150 #[ptr B, .int .i64 t, Au.kyV k] W (Td w Ot mb B (.tuple #[.int .i64 x, .bool d, .bool b, .int .i64 0]) (touchS ms t 5 (i : Int)) n fs) := by
  have HS : Hid (∀ W', TM w Om Ot mb B ms n fs W' → Calls Tryz.prog 203 #[ptr B, .int .i64 t, Au.kyV k] W' fun e w' => e = .returned (.tuple #[.int .i64 (i : Int), .int .i64 0]) ∧ Below W'.heap.size W' w') := fun W' h => stripeOf_any h t k hk i hi (i : Int) 0 (.inl ⟨hh, rfl, rfl⟩)
  have HX := Lib.hid (Blk.box W (Ky.kyc k.a k.b k.p k.q k.r) 87)
  have H1 := Lib.hid (H.next (below_box W (.cells (Ky.kyc k.a k.b k.p k.q k.r) 87)))
  have HOK := Lib.hid H.okf
  have hin : i < n := by have := sOf_lt (n := n) (by have := H.tab.pos; omega) k; omega
  have HI := Lib.hid hi
  have HLN := Lib.hid hl
  have HKN : Hid (¬ Ot W.heap.size) := fun e => Nat.lt_irrefl _ (H.tab.lt_ _ e)
  have HKM : Hid (¬ Om W.heap.size) := fun e => Nat.lt_irrefl _ (H.mem.lt _ e)
  have HKO := Lib.hid hk
  have HL : Hid (∀ w' m, MapAt w' m (part n i fs) → (Instr.lookup 133 (.map (some m)) (Au.kyV k) true).run Tryz.prog w' = .ok (.tuple #[enW x d, .bool b]) w') := fun w' m hm => by
    have hfp := find_part HOK.out (sOf n) k
    rw [hi] at hfp
    rcases hf with ⟨f, hf, rfl, rfl, rfl⟩ | ⟨hf, rfl, rfl, rfl⟩
    · exact look_some hm (oks_part HOK.out _ _) (hfp.trans hf)
    · exact look_none hm (oks_part HOK.out _ _) (hfp.trans hf)
  clear hf
  clear H hk hi hh hl
  go_enter Tryz.func150, Tryz.ntmps150
  go_wp2_with fail
  go_at_call 203
  refine (HS.out _ H1.out).mono ?_
  rintro e w2 ⟨rfl, hb⟩
  have H2 := Lib.hid (H1.out.next hb)
  have HX2 := Lib.hid (HX.out.next hb)
  clear hb H1 HX HS
  obtain ⟨⟨S, M, htr⟩, _⟩ := H2.out.tab
  have c0 := htr.blk.cell 0 _ rfl
  clear htr
  go_wp2_with fail
  clear c0
  go_at_call 174
  refine (Me.read_any H2.out.mem t (i : Int) HLN.out).mono ?_
  rintro e w3 ⟨Om2, rfl, hp, ho, hO⟩
  have H3 := Lib.hid (H2.out.left hp ho hO)
  have HX3 := Lib.hid (HX2.out.only ho HKM.out)
  clear hp ho hO H2 HX2
  obtain ⟨⟨S, M, htr⟩, _⟩ := H3.out.tab
  obtain ⟨gk, hgk⟩ : ∃ g, W.heap.size = g := ⟨_, rfl⟩
  rw [hgk] at HX3 HKN ⊢
  have HQ : Hid (TQ w Om2 Ot mb B (touchS ms t 5 (i : Int)) n S M fs k gk w3) := ⟨H3.out, htr, HX3.out, HKN.out⟩
  clear htr hgk HX3 H3
  go_wp2_with fail
  refine wp_region_held_drew (S := fun w' => Hid (TQ w Om2 Ot mb B (touchS ms t 5 (i : Int)) n S M fs k gk w')) (by kernel_rfl) (Lib.hid HQ.out.drew) (fun hH => ?_)
  refine wpAnyH_take (i := 0) (oi := ⟨some 30, _, _, _, _, _⟩) (v := ?v1) rfl (by kernel_rfl) (by kernel_rfl) (by kernel_rfl) (fun _ _ _ h => h) (Or.inl ⟨rfl, ?c1⟩) hH ?r1
  case c1 => (intro w' _; go_simp; (try with_reducible rfl))
  try simp only [Act.put, List.setIfInBounds_toArray, List.set_cons_zero, List.set_cons_succ]
  refine wpAnyH_take (i := 1) (oi := ⟨some 31, _, _, _, _, _⟩) (v := ?v2) rfl (by kernel_rfl) (by kernel_rfl) (by kernel_rfl) (fun _ _ _ h => h) (Or.inl ⟨rfl, ?c2⟩) hH ?r2
  case c2 => (intro w' _; go_simp; (try with_reducible rfl))
  try simp only [Act.put, List.setIfInBounds_toArray, List.set_cons_zero, List.set_cons_succ]
  refine wpAnyH_take (i := 2) (oi := ⟨some 32, _, _, _, _, _⟩) (v := ?v3) rfl (by kernel_rfl) (by kernel_rfl) (by kernel_rfl) (fun _ _ _ h => h) (Or.inl ⟨rfl, ?c3⟩) hH ?r3
  case c3 => (intro w' _; go_simp; (try with_reducible rfl))
  try simp only [Act.put, List.setIfInBounds_toArray, List.set_cons_zero, List.set_cons_succ]
  refine wpAnyH_take (i := 3) (oi := ⟨some 33, _, _, _, _, _⟩) (v := ?v4) rfl (by kernel_rfl) (by kernel_rfl) (by kernel_rfl) (fun _ _ _ h => h) (Or.inl ⟨rfl, ?c4⟩) hH ?r4
  case c4 => (intro w' hS; have c1 := hS.out.tr.blk.cell 1 _ rfl; go_simp; (try with_reducible rfl))
  try simp only [Act.put, List.setIfInBounds_toArray, List.set_cons_zero, List.set_cons_succ]
  refine wpAnyH_take (i := 4) (oi := ⟨some 34, _, _, _, _, _⟩) (v := ?v5) rfl (by kernel_rfl) (by kernel_rfl) (by kernel_rfl) (fun _ _ _ h => h) (Or.inl ⟨rfl, ?c5⟩) hH ?r5
  case c5 => (intro w' _; go_simp; (try with_reducible rfl))
  try simp only [Act.put, List.setIfInBounds_toArray, List.set_cons_zero, List.set_cons_succ]
  refine wpAnyH_take (i := 5) (oi := ⟨some 35, _, _, _, _, _⟩) (v := ?v6) rfl (by kernel_rfl) (by kernel_rfl) (by kernel_rfl) (fun _ _ _ h => h) (Or.inl ⟨rfl, ?c6⟩) hH ?r6
  case c6 => (intro w' hS; have hv := hin; go_simp; (try with_reducible rfl))
  try simp only [Act.put, List.setIfInBounds_toArray, List.set_cons_zero, List.set_cons_succ]
  refine wpAnyH_take (i := 6) (oi := ⟨some 36, _, _, _, _, _⟩) (v := ?v7) rfl (by kernel_rfl) (by kernel_rfl) (by kernel_rfl) (fun _ _ _ h => h) (Or.inl ⟨rfl, ?c7⟩) hH ?r7
  case c7 => (intro w' hS; have c1 := hS.out.tr.row i hin; go_simp; (try with_reducible rfl))
  try simp only [Act.put, List.setIfInBounds_toArray, List.set_cons_zero, List.set_cons_succ]
  refine wpAnyH_take (i := 7) (oi := ⟨some 37, _, _, _, _, _⟩) (v := ?v8) rfl (by kernel_rfl) (by kernel_rfl) (by kernel_rfl) (fun _ _ _ h => h) (Or.inl ⟨rfl, ?c8⟩) hH ?r8
  case c8 => (intro w' hS; obtain ⟨x0, x1, x2, x3, x4⟩ := Ky.ky_cells hS.out.key; go_simp; (try with_reducible rfl))
  try simp only [Act.put, List.setIfInBounds_toArray, List.set_cons_zero, List.set_cons_succ]
  refine wpAnyH_take (i := 8) (oi := ⟨some 38, _, _, _, _, _⟩) (v := ?v9) rfl (by kernel_rfl) (by kernel_rfl) (by kernel_rfl) (fun _ _ _ h => h) (Or.inl ⟨rfl, ?c9⟩) hH ?r9
  case c9 => (intro w' hS; go_simp; rw [HL.out w' _ (hS.out.tr.map i hin)]; simp only [Result.andThen_ok]; (try with_reducible rfl))
  try simp only [Act.put, List.setIfInBounds_toArray, List.set_cons_zero, List.set_cons_succ]
  refine wpAnyH_take (i := 9) (oi := ⟨some 29, _, _, _, _, _⟩) (v := ?v10) rfl (by kernel_rfl) (by kernel_rfl) (by kernel_rfl) (fun _ _ _ h => h) (Or.inl ⟨rfl, ?c10⟩) hH ?r10
  case c10 => (intro w' _; go_simp; (try with_reducible rfl))
  try simp only [Act.put, List.setIfInBounds_toArray, List.set_cons_zero, List.set_cons_succ]
  refine wpAnyH_take (i := 10) (oi := ⟨some 39, _, _, _, _, _⟩) (v := ?v11) rfl (by kernel_rfl) (by kernel_rfl) (by kernel_rfl) (fun _ _ _ h => h) (Or.inl ⟨rfl, ?c11⟩) hH ?r11
  case c11 => (intro w' _; go_simp; (try with_reducible rfl))
  try simp only [Act.put, List.setIfInBounds_toArray, List.set_cons_zero, List.set_cons_succ]
  refine wpAnyH_take (i := 11) (oi := ⟨some 40, _, _, _, _, _⟩) (v := ?v12) rfl (by kernel_rfl) (by kernel_rfl) (by kernel_rfl) (fun _ _ _ h => h) (Or.inl ⟨rfl, ?c12⟩) hH ?r12
  case c12 => (intro w' _; go_simp; (try with_reducible rfl))
  try simp only [Act.put, List.setIfInBounds_toArray, List.set_cons_zero, List.set_cons_succ]
  refine wpAnyH_ready (rs := [12]) (by kernel_rfl) (by simp) (AllReadyH.cons rfl (fun K hK => ?_) (AllReadyH.nil))
  go_simp
  have e0 := (Blk.box w3 #[.int .i64 0, .bool false] 187).drew.frozen 0
  have e1 := (Blk.box w3 #[.int .i64 0, .bool false] 187).drew.frozen 1
  refine hK.out _ _ (Lib.hid (hH.out.next (below_box _ _))) (fun hH => ?_)
  clear hK K
  try simp only [Act.put, List.setIfInBounds_toArray, List.set_cons_zero, List.set_cons_succ]
  refine wpAnyH_ready (rs := [13]) (by kernel_rfl) (by simp) (AllReadyH.cons rfl (fun K hK => ?_) (AllReadyH.nil))
  go_simp
  clear e0 e1
  refine hK.out _ _ (Lib.hid ((HQ.out.next (below_box _ _)).drew)) (fun hH => ?_)
  clear hK K
  have HE := Lib.hid (Blk.box w3 #[.int .i64 x, .bool d] 187).drew
  try simp only [Act.put, List.setIfInBounds_toArray, List.set_cons_zero, List.set_cons_succ]
  refine wpAnyH_take (i := 14) (oi := ⟨some 8, _, _, _, _, _⟩) (v := ?v13) rfl (by kernel_rfl) (by kernel_rfl) (by kernel_rfl) (fun _ _ _ h => h) (Or.inl ⟨rfl, ?c13⟩) hH ?r13
  case c13 => (intro w' _; go_simp; (try with_reducible rfl))
  try simp only [Act.put, List.setIfInBounds_toArray, List.set_cons_zero, List.set_cons_succ]
  refine wpAnyH_done (by kernel_rfl) ?_ _
  have HQ4 := hH
  clear hH
  obtain ⟨ge, hge⟩ : ∃ g, w3.heap.size = g := ⟨_, rfl⟩
  obtain ⟨w4, hw4⟩ : ∃ v, (w3.alloc (.cells #[.int .i64 x, .bool d] 187)).drew = v := ⟨_, rfl⟩
  rw [hge] at HE ⊢
  rw [hw4] at HE HQ4 ⊢
  clear hge hw4
  have HE4 := HE
  clear HE HQ
  go_wp2_with fail
  refine wp_region_held_drew (S := fun w' => Hid (Below w4.heap.size w4 w')) (by kernel_rfl) (Lib.hid (Below.refl _ w4).drew) (fun hH => ?_)
  refine wpAnyH_take (i := 0) (oi := ⟨some 41, _, _, _, _, _⟩) (v := ?v301) rfl (by kernel_rfl) (by kernel_rfl) (by kernel_rfl) (fun _ _ _ h => h) (Or.inl ⟨rfl, ?c301⟩) hH ?r301
  case c301 => (intro w' _; go_simp; (try with_reducible rfl))
  try simp only [Act.put, List.setIfInBounds_toArray, List.set_cons_zero, List.set_cons_succ]
  refine wpAnyH_take (i := 1) (oi := ⟨some 42, _, _, _, _, _⟩) (v := ?v302) rfl (by kernel_rfl) (by kernel_rfl) (by kernel_rfl) (fun _ _ _ h => h) (Or.inl ⟨rfl, ?c302⟩) hH ?r302
  case c302 => (intro w' hS; have y0 := HE4.out.next hS.out |>.cell 0 _ rfl; go_simp; (try with_reducible rfl))
  try simp only [Act.put, List.setIfInBounds_toArray, List.set_cons_zero, List.set_cons_succ]
  refine wpAnyH_take (i := 2) (oi := ⟨some 43, _, _, _, _, _⟩) (v := ?v303) rfl (by kernel_rfl) (by kernel_rfl) (by kernel_rfl) (fun _ _ _ h => h) (Or.inl ⟨rfl, ?c303⟩) hH ?r303
  case c303 => (intro w' _; go_simp; (try with_reducible rfl))
  try simp only [Act.put, List.setIfInBounds_toArray, List.set_cons_zero, List.set_cons_succ]
  refine wpAnyH_take (i := 3) (oi := ⟨some 44, _, _, _, _, _⟩) (v := ?v304) rfl (by kernel_rfl) (by kernel_rfl) (by kernel_rfl) (fun _ _ _ h => h) (Or.inl ⟨rfl, ?c304⟩) hH ?r304
  case c304 => (intro w' hS; have y1 := HE4.out.next hS.out |>.cell 1 _ rfl; go_simp; (try with_reducible rfl))
  try simp only [Act.put, List.setIfInBounds_toArray, List.set_cons_zero, List.set_cons_succ]
  refine wpAnyH_take (i := 4) (oi := ⟨some 45, _, _, _, _, _⟩) (v := ?v305) rfl (by kernel_rfl) (by kernel_rfl) (by kernel_rfl) (fun _ _ _ h => h) (Or.inl ⟨rfl, ?c305⟩) hH ?r305
  case c305 => (intro w' _; go_simp; (try with_reducible rfl))
  try simp only [Act.put, List.setIfInBounds_toArray, List.set_cons_zero, List.set_cons_succ]
  refine wpAnyH_take (i := 5) (oi := ⟨some 6, _, _, _, _, _⟩) (v := ?v306) rfl (by kernel_rfl) (by kernel_rfl) (by kernel_rfl) (fun _ _ _ h => h) (Or.inl ⟨rfl, ?c306⟩) hH ?r306
  case c306 => (intro w' _; go_simp; (try with_reducible rfl))
  try simp only [Act.put, List.setIfInBounds_toArray, List.set_cons_zero, List.set_cons_succ]
  refine wpAnyH_take (i := 6) (oi := ⟨some 7, _, _, _, _, _⟩) (v := ?v307) rfl (by kernel_rfl) (by kernel_rfl) (by kernel_rfl) (fun _ _ _ h => h) (Or.inl ⟨rfl, ?c307⟩) hH ?r307
  case c307 => (intro w' _; go_simp; (try with_reducible rfl))
  try simp only [Act.put, List.setIfInBounds_toArray, List.set_cons_zero, List.set_cons_succ]
  refine wpAnyH_take (i := 7) (oi := ⟨some 8, _, _, _, _, _⟩) (v := ?v308) rfl (by kernel_rfl) (by kernel_rfl) (by kernel_rfl) (fun _ _ _ h => h) (Or.inl ⟨rfl, ?c308⟩) hH ?r308
  case c308 => (intro w' _; go_simp; (try with_reducible rfl))
  try simp only [Act.put, List.setIfInBounds_toArray, List.set_cons_zero, List.set_cons_succ]
  refine wpAnyH_take (i := 8) (oi := ⟨some 9, _, _, _, _, _⟩) (v := ?v309) rfl (by kernel_rfl) (by kernel_rfl) (by kernel_rfl) (fun _ _ _ h => h) (Or.inl ⟨rfl, ?c309⟩) hH ?r309
  case c309 => (intro w' _; go_simp; (try with_reducible rfl))
  try simp only [Act.put, List.setIfInBounds_toArray, List.set_cons_zero, List.set_cons_succ]
  refine wpAnyH_done (by kernel_rfl) ?_ _
  have HR := Lib.hid (HQ4.out.tm.next hH.out)
  clear hH
  go_wp2_with fail
  (try simp only [Exit.inBlock, Exit.then])
  refine bodyPost_ret (results_four rfl _ _ _) rfl ?_
  exact ⟨_, rfl, HR.out⟩
set_option maxHeartbeats 4000000 in
theorem put_yes (H : TM w Om Ot mb B ms n fs W) (hl : ms.ls.length ≤ 1000000000000) (t : Int) (k : AutM.Ke) (hk : k.Ok) (x : Int) (d : Bool) (i : Nat) (hi : sOf n k = i) (hh : heldB ms t (i : Int) = true) (hx : -9223372036854775808 ≤ x ∧ x ≤ 9223372036854775807) :
    Calls Tryz.prog 201 #[ptr B, .int .i64 t, Au.kyV k, .int .i64 x, .bool d] W (Td w Ot mb B (.int .i64 0) (touchS ms t 6 (i : Int)) n (upd ⟨k, x, d⟩ fs)) := by
  have HS : Hid (∀ W', TM w Om Ot mb B ms n fs W' → Calls Tryz.prog 203 #[ptr B, .int .i64 t, Au.kyV k] W' fun e w' => e = .returned (.tuple #[.int .i64 (i : Int), .int .i64 0]) ∧ Below W'.heap.size W' w') := fun W' h => stripeOf_any h t k hk i hi (i : Int) 0 (.inl ⟨hh, rfl, rfl⟩)
  have HX := Lib.hid (Blk.box W (Ky.kyc k.a k.b k.p k.q k.r) 87)
  have H1 := Lib.hid (H.next (below_box W (.cells (Ky.kyc k.a k.b k.p k.q k.r) 87)))
  have HOK := Lib.hid H.okf
  have hin : i < n := by have := sOf_lt (n := n) (by have := H.tab.pos; omega) k; omega
  have HI := Lib.hid hi
  have HLN := Lib.hid hl
  have HKN : Hid (¬ Ot W.heap.size) := fun e => Nat.lt_irrefl _ (H.tab.lt_ _ e)
  have HKM : Hid (¬ Om W.heap.size) := fun e => Nat.lt_irrefl _ (H.mem.lt _ e)
  have HKO := Lib.hid hk
  have HXB := Lib.hid hx
  have HPU : Hid (∀ w1 m, MapAt w1 m (part n i fs) → ∃ w', (Instr.mapUpdate 133 (.map (some m)) (Au.kyV k) (enW x d)).run Tryz.prog w1 = .ok () w' ∧ MapAt w' m (part n i (upd ⟨k, x, d⟩ fs)) ∧ Only (· = m) w1 w') := fun w1 m hm => by
    have hfp := find_part HOK.out (sOf n) k
    have hpu := part_upd (c := sOf n) (g := ⟨k, x, d⟩) HOK.out
    rw [hi] at hfp
    simp only [hi] at hpu
    cases hf : find k fs with
    | some f =>
      obtain ⟨w', h1, h2, h3⟩ := run_put hm (oks_part HOK.out _ _) (g := ⟨k, x, d⟩) (f := f) (hfp.trans hf)
      rw [upd_some (g := ⟨k, x, d⟩) (hfp.trans hf)] at hpu
      exact ⟨w', h1, h2.perm hpu, h3⟩
    | none =>
      obtain ⟨w', h1, h2, h3⟩ := run_ins hm (oks_part HOK.out _ _) (g := ⟨k, x, d⟩) (hfp.trans hf)
      rw [upd_none (g := ⟨k, x, d⟩) (hfp.trans hf)] at hpu
      exact ⟨w', h1, h2.perm hpu, h3⟩
  clear hx
  clear H hk hi hh hl
  go_enter Tryz.func201, Tryz.ntmps201
  go_wp2_with fail
  go_at_call 203
  refine (HS.out _ H1.out).mono ?_
  rintro e w2 ⟨rfl, hb⟩
  have H2 := Lib.hid (H1.out.next hb)
  have HX2 := Lib.hid (HX.out.next hb)
  clear hb H1 HX HS
  obtain ⟨⟨S, M, htr⟩, _⟩ := H2.out.tab
  have c0 := htr.blk.cell 0 _ rfl
  clear htr
  go_wp2_with fail
  clear c0
  go_at_call 165
  refine (Me.write_any H2.out.mem t (i : Int) HLN.out).mono ?_
  rintro e w3 ⟨Om2, rfl, hp, ho, hO⟩
  have H3 := Lib.hid (H2.out.left hp ho hO)
  have HX3 := Lib.hid (HX2.out.only ho HKM.out)
  clear hp ho hO H2 HX2
  obtain ⟨⟨S, M, htr⟩, _⟩ := H3.out.tab
  obtain ⟨gk, hgk⟩ : ∃ g, W.heap.size = g := ⟨_, rfl⟩
  rw [hgk] at HX3 HKN ⊢
  have HQ : Hid (TQ w Om2 Ot mb B (touchS ms t 6 (i : Int)) n S M fs k gk w3) := ⟨H3.out, htr, HX3.out, HKN.out⟩
  clear htr hgk HX3 H3
  go_wp2_with fail
  refine region_e (S := fun w' => Hid (TQ w Om2 Ot mb B (touchS ms t 6 (i : Int)) n S M fs k gk w')) 11 (by kernel_rfl) (Lib.hid HQ.out.drew) (fun hH => ?_)
  refine anyE_take (i := 0) (oi := ⟨some 30, _, _, _, _, _⟩) (v := ?v1) rfl (by kernel_rfl) (by kernel_rfl) (by kernel_rfl) (by kernel_rfl) (fun _ _ _ h => h) (Or.inl ⟨rfl, ?c1⟩) hH ?r1
  case c1 => (intro w' _; go_simp; (try with_reducible rfl))
  try simp only [Act.put, List.setIfInBounds_toArray, List.set_cons_zero, List.set_cons_succ]
  refine anyE_take (i := 1) (oi := ⟨some 31, _, _, _, _, _⟩) (v := ?v2) rfl (by kernel_rfl) (by kernel_rfl) (by kernel_rfl) (by kernel_rfl) (fun _ _ _ h => h) (Or.inl ⟨rfl, ?c2⟩) hH ?r2
  case c2 => (intro w' _; go_simp; (try with_reducible rfl))
  try simp only [Act.put, List.setIfInBounds_toArray, List.set_cons_zero, List.set_cons_succ]
  refine anyE_take (i := 2) (oi := ⟨some 32, _, _, _, _, _⟩) (v := ?v3) rfl (by kernel_rfl) (by kernel_rfl) (by kernel_rfl) (by kernel_rfl) (fun _ _ _ h => h) (Or.inl ⟨rfl, ?c3⟩) hH ?r3
  case c3 => (intro w' _; go_simp; (try with_reducible rfl))
  try simp only [Act.put, List.setIfInBounds_toArray, List.set_cons_zero, List.set_cons_succ]
  refine anyE_take (i := 3) (oi := ⟨some 33, _, _, _, _, _⟩) (v := ?v4) rfl (by kernel_rfl) (by kernel_rfl) (by kernel_rfl) (by kernel_rfl) (fun _ _ _ h => h) (Or.inl ⟨rfl, ?c4⟩) hH ?r4
  case c4 => (intro w' hS; have c1 := hS.out.tr.blk.cell 1 _ rfl; go_simp; (try with_reducible rfl))
  try simp only [Act.put, List.setIfInBounds_toArray, List.set_cons_zero, List.set_cons_succ]
  refine anyE_take (i := 4) (oi := ⟨some 34, _, _, _, _, _⟩) (v := ?v5) rfl (by kernel_rfl) (by kernel_rfl) (by kernel_rfl) (by kernel_rfl) (fun _ _ _ h => h) (Or.inl ⟨rfl, ?c5⟩) hH ?r5
  case c5 => (intro w' _; go_simp; (try with_reducible rfl))
  try simp only [Act.put, List.setIfInBounds_toArray, List.set_cons_zero, List.set_cons_succ]
  refine anyE_take (i := 5) (oi := ⟨some 35, _, _, _, _, _⟩) (v := ?v6) rfl (by kernel_rfl) (by kernel_rfl) (by kernel_rfl) (by kernel_rfl) (fun _ _ _ h => h) (Or.inl ⟨rfl, ?c6⟩) hH ?r6
  case c6 => (intro w' hS; have hv := hin; go_simp; (try with_reducible rfl))
  try simp only [Act.put, List.setIfInBounds_toArray, List.set_cons_zero, List.set_cons_succ]
  refine anyE_take (i := 6) (oi := ⟨some 36, _, _, _, _, _⟩) (v := ?v7) rfl (by kernel_rfl) (by kernel_rfl) (by kernel_rfl) (by kernel_rfl) (fun _ _ _ h => h) (Or.inl ⟨rfl, ?c7⟩) hH ?r7
  case c7 => (intro w' hS; have c1 := hS.out.tr.row i hin; go_simp; (try with_reducible rfl))
  try simp only [Act.put, List.setIfInBounds_toArray, List.set_cons_zero, List.set_cons_succ]
  refine anyE_take (i := 7) (oi := ⟨some 37, _, _, _, _, _⟩) (v := ?v8) rfl (by kernel_rfl) (by kernel_rfl) (by kernel_rfl) (by kernel_rfl) (fun _ _ _ h => h) (Or.inl ⟨rfl, ?c8⟩) hH ?r8
  case c8 => (intro w' hS; obtain ⟨x0, x1, x2, x3, x4⟩ := Ky.ky_cells hS.out.key; go_simp; (try with_reducible rfl))
  try simp only [Act.put, List.setIfInBounds_toArray, List.set_cons_zero, List.set_cons_succ]
  refine anyE_take (i := 8) (oi := ⟨some 38, _, _, _, _, _⟩) (v := ?v9) rfl (by kernel_rfl) (by kernel_rfl) (by kernel_rfl) (by kernel_rfl) (fun _ _ _ h => h) (Or.inl ⟨rfl, ?c9⟩) hH ?r9
  case c9 => (intro w' _; go_simp; (try with_reducible rfl))
  try simp only [Act.put, List.setIfInBounds_toArray, List.set_cons_zero, List.set_cons_succ]
  refine anyE_take (i := 9) (oi := ⟨some 39, _, _, _, _, _⟩) (v := ?v10) rfl (by kernel_rfl) (by kernel_rfl) (by kernel_rfl) (by kernel_rfl) (fun _ _ _ h => h) (Or.inl ⟨rfl, ?c10⟩) hH ?r10
  case c10 => (intro w' _; go_simp; (try with_reducible rfl))
  try simp only [Act.put, List.setIfInBounds_toArray, List.set_cons_zero, List.set_cons_succ]
  refine anyE_take (i := 10) (oi := ⟨some 40, _, _, _, _, _⟩) (v := ?v11) rfl (by kernel_rfl) (by kernel_rfl) (by kernel_rfl) (by kernel_rfl) (fun _ _ _ h => h) (Or.inl ⟨rfl, ?c11⟩) hH ?r11
  case c11 => (intro w' _; go_simp; (try with_reducible rfl))
  try simp only [Act.put, List.setIfInBounds_toArray, List.set_cons_zero, List.set_cons_succ]
  refine anyE_ready (rs := [11]) (by kernel_rfl) (by simp) (AllE.end_ rfl (fun K hK => ?_))
  obtain ⟨w4, hrun, hm4, ho4⟩ := HPU.out _ _ (hH.out.tr.map i hin)
  have HTN := Lib.hid (TM.right hH.out.tm (fs' := upd ⟨k, x, d⟩ fs) ⟨⟨S, M, hH.out.tr.turn hin ho4 hm4 (fun j hj hne => part_upd_ne (fun e => hne (e.symm.trans HI.out)) fs)⟩, oks_upd HOK.out ⟨HKO.out, HXB.out.1, HXB.out.2⟩, hH.out.tm.tab.2.2⟩ (ho4.mono (fun j e => e ▸ hH.out.tr.om i hin)))
  go_simp
  refine hK.out _ _ ?_
  clear hK K
  try simp only [Act.put, List.setIfInBounds_toArray, List.set_cons_zero, List.set_cons_succ]
  refine anyE_done (by kernel_rfl) ?_ _
  go_wp2_with fail
  go_ret
  exact ⟨_, rfl, HTN.out⟩
set_option maxHeartbeats 4000000 in
theorem remove_yes (H : TM w Om Ot mb B ms n fs W) (hl : ms.ls.length ≤ 1000000000000) (t : Int) (k : AutM.Ke) (hk : k.Ok) (x : Int) (d b : Bool) (ve : Int) (i : Nat) (hi : sOf n k = i) (hh : heldB ms t (i : Int) = true) (hf : (∃ f, find k fs = some f ∧ x = f.x ∧ d = f.dn ∧ b = true ∧ ve = 0) ∨ (find k fs = none ∧ x = 0 ∧ d = false ∧ b = false ∧ ve = 15)) :
    Calls Tryz.prog 170 #[ptr B, .int .i64 t, Au.kyV k] W (Td w Ot mb B (.int .i64 ve) (touchS ms t 6 (i : Int)) n (drop k fs)) := by
  have HS : Hid (∀ W', TM w Om Ot mb B ms n fs W' → Calls Tryz.prog 203 #[ptr B, .int .i64 t, Au.kyV k] W' fun e w' => e = .returned (.tuple #[.int .i64 (i : Int), .int .i64 0]) ∧ Below W'.heap.size W' w') := fun W' h => stripeOf_any h t k hk i hi (i : Int) 0 (.inl ⟨hh, rfl, rfl⟩)
  have HX := Lib.hid (Blk.box W (Ky.kyc k.a k.b k.p k.q k.r) 87)
  have H1 := Lib.hid (H.next (below_box W (.cells (Ky.kyc k.a k.b k.p k.q k.r) 87)))
  have HOK := Lib.hid H.okf
  have hin : i < n := by have := sOf_lt (n := n) (by have := H.tab.pos; omega) k; omega
  have HI := Lib.hid hi
  have HLN := Lib.hid hl
  have HKN : Hid (¬ Ot W.heap.size) := fun e => Nat.lt_irrefl _ (H.tab.lt_ _ e)
  have HKM : Hid (¬ Om W.heap.size) := fun e => Nat.lt_irrefl _ (H.mem.lt _ e)
  have HKO := Lib.hid hk
  have HL : Hid (∀ w' m, MapAt w' m (part n i fs) → (Instr.lookup 133 (.map (some m)) (Au.kyV k) true).run Tryz.prog w' = .ok (.tuple #[enW x d, .bool b]) w') := fun w' m hm => by
    have hfp := find_part HOK.out (sOf n) k
    rw [hi] at hfp
    rcases hf with ⟨f, hf, rfl, rfl, rfl, -⟩ | ⟨hf, rfl, rfl, rfl, -⟩
    · exact look_some hm (oks_part HOK.out _ _) (hfp.trans hf)
    · exact look_none hm (oks_part HOK.out _ _) (hfp.trans hf)
  have HD : Hid (b = true → ∀ w1 m, MapAt w1 m (part n i fs) → ∃ w2, (Builtin.delete_ #[133, 87] 0 #[.map (some m), Au.kyV k]).run Tryz.prog w1 = .ok (.tuple #[]) w2 ∧ MapAt w2 m (part n i (drop k fs)) ∧ Only (· = m) w1 w2) := fun hb w1 m hm => by
    have hfp := find_part HOK.out (sOf n) k
    rw [hi] at hfp
    rcases hf with ⟨f, hf, -, -, -, -⟩ | ⟨-, -, -, e, -⟩
    · obtain ⟨w2, h1, h2, h3⟩ := run_drop hm (oks_part HOK.out _ _) (hfp.trans hf) 0
      exact ⟨w2, h1, by rw [show part n i (drop k fs) = drop k (part n i fs) from part_drop _ _ _ _]; exact h2, h3⟩
    · rw [hb] at e; cases e
  have HVE : Hid ((b = false → ve = 15 ∧ drop k fs = fs) ∧ (b = true → ve = 0)) := by
    rcases hf with ⟨f, hf, -, -, e, e2⟩ | ⟨hf, -, -, e, e2⟩
    · exact ⟨fun h => by (rw [h] at e; cases e), fun _ => e2⟩
    · exact ⟨fun _ => ⟨e2, drop_none hf⟩, fun h => by (rw [h] at e; cases e)⟩
  clear hf
  clear H hk hi hh hl
  go_enter Tryz.func170, Tryz.ntmps170
  go_wp2_with fail
  go_at_call 203
  refine (HS.out _ H1.out).mono ?_
  rintro e w2 ⟨rfl, hb⟩
  have H2 := Lib.hid (H1.out.next hb)
  have HX2 := Lib.hid (HX.out.next hb)
  clear hb H1 HX HS
  obtain ⟨⟨S, M, htr⟩, _⟩ := H2.out.tab
  have c0 := htr.blk.cell 0 _ rfl
  clear htr
  go_wp2_with fail
  clear c0
  go_at_call 165
  refine (Me.write_any H2.out.mem t (i : Int) HLN.out).mono ?_
  rintro e w3 ⟨Om2, rfl, hp, ho, hO⟩
  have H3 := Lib.hid (H2.out.left hp ho hO)
  have HX3 := Lib.hid (HX2.out.only ho HKM.out)
  clear hp ho hO H2 HX2
  obtain ⟨⟨S, M, htr⟩, _⟩ := H3.out.tab
  obtain ⟨gk, hgk⟩ : ∃ g, W.heap.size = g := ⟨_, rfl⟩
  rw [hgk] at HX3 HKN ⊢
  have HQ : Hid (TQ w Om2 Ot mb B (touchS ms t 6 (i : Int)) n S M fs k gk w3) := ⟨H3.out, htr, HX3.out, HKN.out⟩
  clear htr hgk HX3 H3
  go_wp2_with fail
  refine wp_region_held_drew (S := fun w' => Hid (TQ w Om2 Ot mb B (touchS ms t 6 (i : Int)) n S M fs k gk w')) (by kernel_rfl) (Lib.hid HQ.out.drew) (fun hH => ?_)
  refine wpAnyH_take (i := 0) (oi := ⟨some 29, _, _, _, _, _⟩) (v := ?v1) rfl (by kernel_rfl) (by kernel_rfl) (by kernel_rfl) (fun _ _ _ h => h) (Or.inl ⟨rfl, ?c1⟩) hH ?r1
  case c1 => (intro w' _; go_simp; (try with_reducible rfl))
  try simp only [Act.put, List.setIfInBounds_toArray, List.set_cons_zero, List.set_cons_succ]
  refine wpAnyH_take (i := 1) (oi := ⟨some 30, _, _, _, _, _⟩) (v := ?v2) rfl (by kernel_rfl) (by kernel_rfl) (by kernel_rfl) (fun _ _ _ h => h) (Or.inl ⟨rfl, ?c2⟩) hH ?r2
  case c2 => (intro w' _; go_simp; (try with_reducible rfl))
  try simp only [Act.put, List.setIfInBounds_toArray, List.set_cons_zero, List.set_cons_succ]
  refine wpAnyH_take (i := 2) (oi := ⟨some 31, _, _, _, _, _⟩) (v := ?v3) rfl (by kernel_rfl) (by kernel_rfl) (by kernel_rfl) (fun _ _ _ h => h) (Or.inl ⟨rfl, ?c3⟩) hH ?r3
  case c3 => (intro w' _; go_simp; (try with_reducible rfl))
  try simp only [Act.put, List.setIfInBounds_toArray, List.set_cons_zero, List.set_cons_succ]
  refine wpAnyH_take (i := 3) (oi := ⟨some 32, _, _, _, _, _⟩) (v := ?v4) rfl (by kernel_rfl) (by kernel_rfl) (by kernel_rfl) (fun _ _ _ h => h) (Or.inl ⟨rfl, ?c4⟩) hH ?r4
  case c4 => (intro w' hS; have c1 := hS.out.tr.blk.cell 1 _ rfl; go_simp; (try with_reducible rfl))
  try simp only [Act.put, List.setIfInBounds_toArray, List.set_cons_zero, List.set_cons_succ]
  refine wpAnyH_take (i := 4) (oi := ⟨some 33, _, _, _, _, _⟩) (v := ?v5) rfl (by kernel_rfl) (by kernel_rfl) (by kernel_rfl) (fun _ _ _ h => h) (Or.inl ⟨rfl, ?c5⟩) hH ?r5
  case c5 => (intro w' _; go_simp; (try with_reducible rfl))
  try simp only [Act.put, List.setIfInBounds_toArray, List.set_cons_zero, List.set_cons_succ]
  refine wpAnyH_take (i := 5) (oi := ⟨some 34, _, _, _, _, _⟩) (v := ?v6) rfl (by kernel_rfl) (by kernel_rfl) (by kernel_rfl) (fun _ _ _ h => h) (Or.inl ⟨rfl, ?c6⟩) hH ?r6
  case c6 => (intro w' hS; have hv := hin; go_simp; (try with_reducible rfl))
  try simp only [Act.put, List.setIfInBounds_toArray, List.set_cons_zero, List.set_cons_succ]
  refine wpAnyH_take (i := 6) (oi := ⟨some 35, _, _, _, _, _⟩) (v := ?v7) rfl (by kernel_rfl) (by kernel_rfl) (by kernel_rfl) (fun _ _ _ h => h) (Or.inl ⟨rfl, ?c7⟩) hH ?r7
  case c7 => (intro w' hS; have c1 := hS.out.tr.row i hin; go_simp; (try with_reducible rfl))
  try simp only [Act.put, List.setIfInBounds_toArray, List.set_cons_zero, List.set_cons_succ]
  refine wpAnyH_take (i := 7) (oi := ⟨some 36, _, _, _, _, _⟩) (v := ?v8) rfl (by kernel_rfl) (by kernel_rfl) (by kernel_rfl) (fun _ _ _ h => h) (Or.inl ⟨rfl, ?c8⟩) hH ?r8
  case c8 => (intro w' hS; obtain ⟨x0, x1, x2, x3, x4⟩ := Ky.ky_cells hS.out.key; go_simp; (try with_reducible rfl))
  try simp only [Act.put, List.setIfInBounds_toArray, List.set_cons_zero, List.set_cons_succ]
  refine wpAnyH_take (i := 8) (oi := ⟨some 37, _, _, _, _, _⟩) (v := ?v9) rfl (by kernel_rfl) (by kernel_rfl) (by kernel_rfl) (fun _ _ _ h => h) (Or.inl ⟨rfl, ?c9⟩) hH ?r9
  case c9 => (intro w' hS; go_simp; rw [HL.out w' _ (hS.out.tr.map i hin)]; simp only [Result.andThen_ok]; (try with_reducible rfl))
  try simp only [Act.put, List.setIfInBounds_toArray, List.set_cons_zero, List.set_cons_succ]
  refine wpAnyH_take (i := 9) (oi := ⟨some 28, _, _, _, _, _⟩) (v := ?v10) rfl (by kernel_rfl) (by kernel_rfl) (by kernel_rfl) (fun _ _ _ h => h) (Or.inl ⟨rfl, ?c10⟩) hH ?r10
  case c10 => (intro w' _; go_simp; (try with_reducible rfl))
  try simp only [Act.put, List.setIfInBounds_toArray, List.set_cons_zero, List.set_cons_succ]
  refine wpAnyH_take (i := 10) (oi := ⟨some 38, _, _, _, _, _⟩) (v := ?v11) rfl (by kernel_rfl) (by kernel_rfl) (by kernel_rfl) (fun _ _ _ h => h) (Or.inl ⟨rfl, ?c11⟩) hH ?r11
  case c11 => (intro w' _; go_simp; (try with_reducible rfl))
  try simp only [Act.put, List.setIfInBounds_toArray, List.set_cons_zero, List.set_cons_succ]
  refine wpAnyH_take (i := 11) (oi := ⟨some 39, _, _, _, _, _⟩) (v := ?v12) rfl (by kernel_rfl) (by kernel_rfl) (by kernel_rfl) (fun _ _ _ h => h) (Or.inl ⟨rfl, ?c12⟩) hH ?r12
  case c12 => (intro w' _; go_simp; (try with_reducible rfl))
  try simp only [Act.put, List.setIfInBounds_toArray, List.set_cons_zero, List.set_cons_succ]
  refine wpAnyH_ready (rs := [12]) (by kernel_rfl) (by simp) (AllReadyH.cons rfl (fun K hK => ?_) (AllReadyH.nil))
  go_simp
  have e0 := (Blk.box w3 #[.int .i64 0, .bool false] 187).drew.frozen 0
  have e1 := (Blk.box w3 #[.int .i64 0, .bool false] 187).drew.frozen 1
  refine hK.out _ _ (Lib.hid (hH.out.next (below_box _ _))) (fun hH => ?_)
  clear hK K
  try simp only [Act.put, List.setIfInBounds_toArray, List.set_cons_zero, List.set_cons_succ]
  refine wpAnyH_ready (rs := [13]) (by kernel_rfl) (by simp) (AllReadyH.cons rfl (fun K hK => ?_) (AllReadyH.nil))
  go_simp
  clear e0 e1
  refine hK.out _ _ (Lib.hid ((HQ.out.next (below_box _ _)).drew)) (fun hH => ?_)
  clear hK K
  have HE := Lib.hid (Blk.box w3 #[.int .i64 x, .bool d] 187).drew
  try simp only [Act.put, List.setIfInBounds_toArray, List.set_cons_zero, List.set_cons_succ]
  refine wpAnyH_take (i := 14) (oi := ⟨some 10, _, _, _, _, _⟩) (v := ?v13) rfl (by kernel_rfl) (by kernel_rfl) (by kernel_rfl) (fun _ _ _ h => h) (Or.inl ⟨rfl, ?c13⟩) hH ?r13
  case c13 => (intro w' _; go_simp; (try with_reducible rfl))
  try simp only [Act.put, List.setIfInBounds_toArray, List.set_cons_zero, List.set_cons_succ]
  refine wpAnyH_done (by kernel_rfl) ?_ _
  have HQ4 := hH
  clear hH HE HQ
  obtain ⟨w4, hw4⟩ : ∃ v, (w3.alloc (.cells #[.int .i64 x, .bool d] 187)).drew = v := ⟨_, rfl⟩
  rw [hw4] at HQ4 ⊢
  clear hw4
  cases b with
  | false =>
    have HV1 := Lib.hid (HVE.out.1 rfl)
    go_wp2_with fail
    go_ret
    exact ⟨_, by rw [HV1.out.1]; rfl, by rw [HV1.out.2]; exact HQ4.out.tm⟩
  | true =>
    have hBb : true = true := rfl
    go_wp2_with fail
    refine wp_region_held_drew (S := fun w' => Blk w' gk (Ky.kyc k.a k.b k.p k.q k.r) 87 ∧ w'.cell? ⟨B, 1, none⟩ = some (.slice (some ⟨S, 0, none⟩) n n) ∧ w'.cell? ⟨S, i, none⟩ = some (.map (some (M i)))) (by kernel_rfl) (⟨HQ4.out.key.drew, HQ4.out.drew.tr.blk.cell 1 _ rfl, HQ4.out.drew.tr.row i hin⟩) (fun hH => ?_)
    refine wpAnyH_take (i := 0) (oi := ⟨some 42, _, _, _, _, _⟩) (v := ?v301) rfl (by kernel_rfl) (by kernel_rfl) (by kernel_rfl) (fun _ _ _ h => h) (Or.inl ⟨rfl, ?c301⟩) hH ?r301
    case c301 => (intro w' _; go_simp; (try with_reducible rfl))
    try simp only [Act.put, List.setIfInBounds_toArray, List.set_cons_zero, List.set_cons_succ]
    refine wpAnyH_take (i := 1) (oi := ⟨some 43, _, _, _, _, _⟩) (v := ?v302) rfl (by kernel_rfl) (by kernel_rfl) (by kernel_rfl) (fun _ _ _ h => h) (Or.inl ⟨rfl, ?c302⟩) hH ?r302
    case c302 => (intro w' _; go_simp; (try with_reducible rfl))
    try simp only [Act.put, List.setIfInBounds_toArray, List.set_cons_zero, List.set_cons_succ]
    refine wpAnyH_take (i := 2) (oi := ⟨some 44, _, _, _, _, _⟩) (v := ?v303) rfl (by kernel_rfl) (by kernel_rfl) (by kernel_rfl) (fun _ _ _ h => h) (Or.inl ⟨rfl, ?c303⟩) hH ?r303
    case c303 => (intro w' _; go_simp; (try with_reducible rfl))
    try simp only [Act.put, List.setIfInBounds_toArray, List.set_cons_zero, List.set_cons_succ]
    refine wpAnyH_take (i := 3) (oi := ⟨some 45, _, _, _, _, _⟩) (v := ?v304) rfl (by kernel_rfl) (by kernel_rfl) (by kernel_rfl) (fun _ _ _ h => h) (Or.inl ⟨rfl, ?c304⟩) hH ?r304
    case c304 => (intro w' hS; have c1 := hS.2.1; go_simp; (try with_reducible rfl))
    try simp only [Act.put, List.setIfInBounds_toArray, List.set_cons_zero, List.set_cons_succ]
    refine wpAnyH_take (i := 4) (oi := ⟨some 46, _, _, _, _, _⟩) (v := ?v305) rfl (by kernel_rfl) (by kernel_rfl) (by kernel_rfl) (fun _ _ _ h => h) (Or.inl ⟨rfl, ?c305⟩) hH ?r305
    case c305 => (intro w' _; go_simp; (try with_reducible rfl))
    try simp only [Act.put, List.setIfInBounds_toArray, List.set_cons_zero, List.set_cons_succ]
    refine wpAnyH_take (i := 5) (oi := ⟨some 47, _, _, _, _, _⟩) (v := ?v306) rfl (by kernel_rfl) (by kernel_rfl) (by kernel_rfl) (fun _ _ _ h => h) (Or.inl ⟨rfl, ?c306⟩) hH ?r306
    case c306 => (intro w' hS; have hv := hin; go_simp; (try with_reducible rfl))
    try simp only [Act.put, List.setIfInBounds_toArray, List.set_cons_zero, List.set_cons_succ]
    refine wpAnyH_take (i := 6) (oi := ⟨some 48, _, _, _, _, _⟩) (v := ?v307) rfl (by kernel_rfl) (by kernel_rfl) (by kernel_rfl) (fun _ _ _ h => h) (Or.inl ⟨rfl, ?c307⟩) hH ?r307
    case c307 => (intro w' hS; have c1 := hS.2.2; go_simp; (try with_reducible rfl))
    try simp only [Act.put, List.setIfInBounds_toArray, List.set_cons_zero, List.set_cons_succ]
    refine wpAnyH_take (i := 7) (oi := ⟨some 49, _, _, _, _, _⟩) (v := ?v308) rfl (by kernel_rfl) (by kernel_rfl) (by kernel_rfl) (fun _ _ _ h => h) (Or.inl ⟨rfl, ?c308⟩) hH ?r308
    case c308 => (intro w' hS; obtain ⟨x0, x1, x2, x3, x4⟩ := Ky.ky_cells hS.1; go_simp; (try with_reducible rfl))
    try simp only [Act.put, List.setIfInBounds_toArray, List.set_cons_zero, List.set_cons_succ]
    refine wpAnyH_ready (rs := [8]) (by kernel_rfl) (by simp) (AllReadyH.cons rfl (fun K hK => ?_) (AllReadyH.nil))
    obtain ⟨w6, hrun, hm4, ho4⟩ := HD.out hBb w4.drew _ (HQ4.out.drew.tr.map i hin)
    have htr6 := HQ4.out.drew.tr.turn hin ho4 hm4 (fun j hj hne => by rw [show part n j (drop k fs) = part n j fs from part_drop_ne (fun e => hne (e.symm.trans HI.out)) fs])
    have HTN := Lib.hid (TM.right HQ4.out.drew.tm (fs' := drop k fs) ⟨⟨S, M, htr6⟩, HOK.out.drop k, HQ4.out.tm.tab.2.2⟩ (ho4.mono (fun j e => e ▸ HQ4.out.tr.om i hin)))
    have hkb := HQ4.out.drew.key.keep (ho4.block _ HQ4.out.drew.key.lt (fun e => HQ4.out.nk (e ▸ HQ4.out.tr.om i hin)))
    go_simp
    refine hK.out _ _ (⟨hkb, htr6.blk.cell 1 _ rfl, htr6.row i hin⟩) (fun hH => ?_)
    clear hK K
    clear hkb htr6 hm4 ho4 hrun
    try simp only [Act.put, List.setIfInBounds_toArray, List.set_cons_zero, List.set_cons_succ]
    refine wpAnyH_done (by kernel_rfl) ?_ _
    clear hH
    go_wp2_with fail
    go_ret
    exact ⟨_, by rw [HVE.out.2 hBb]; rfl, HTN.out⟩
end
end Tb
end Go.Proofs.YtcockldefmmhbaaGreatDoor
/- Layer 21, plain mathematics: what the threads share, an op, its acts. -/
set_option linter.unusedVariables false
set_option linter.unusedSimpArgs false
namespace Go.Proofs.YtcockldefmmhbaaGreatDoor
namespace Pg
open MemM (Ms lookV loadS swapB swapS holdV lockB lockS unlockS touchS moreS)
open RulM (R)
open MatM (K fst accB)
open AutM (Ke)
open Tb (sOf heldB upd)

/-- A point; of Kind 0: a mark. -/
structure Pt where
  kd : Int
  t : Int
  op : Int
  k : Ke
  v : Int
  n : Int
def k0 : Ke := ⟨0, 0, 0, 0, 0⟩
def p0 : Pt := ⟨0, 0, 0, k0, 0, 0⟩
/-- How a firewall is made. -/
structure Cf where
  n : Nat
  N : Int
  T : Nat → Int
/-- What is shared. -/
structure Sh where
  ms : Ms
  fs : List TabM.Fl
  rl : Int → List R
  pts : List Pt
/-- Where an op is. -/
inductive At
  | find | release | load | judge | advance | sure | look | again | over | kill | less | leave | absent | enter | unlock
  | malformed | count | add | readClock | tick | claim | prepare | publish | disclaim | stat | take | visit | inspect | finish | endOp | done
  deriving DecidableEq
/-- An op. -/
structure Rn where
  t : Int
  op : Int
  at_ : At
  mu : Int
  cal : Bool
  en : Bool
  e : Int
  v : Int
  n : Int
  z : Int
  li : List R
  p : K
  dn : Bool
  q : Nat
  st : Nat
  ks : List Ke
  k : Ke
  x : Int
  tu : Bool
  tn : Int
  mr : Nat
  wf : Int
  wg : Int
  wc : Int

/-! The words. -/
def cG (x : Int) : Int := x % 1099511627776
def kG (x : Int) : Int := x / 1099511627776 % 4096
def vG (x : Int) : Int := x / 4503599627370496
def cF (x : Int) : Int := x % 1099511627776
def nF (x : Int) : Int := x / 1099511627776 % 1048576
def sF (x : Int) : Int := x / 1152921504606846976
/-- A word of 64 bits. -/
def W64 (x : Int) : Prop := 0 ≤ x ∧ x ≤ 18446744073709551615
theorem fitG {x : Int} (h : W64 x) : GatM.Fit (cG x) (kG x) (vG x) := by
  obtain ⟨_, _⟩ := h; unfold cG kG vG; exact ⟨by omega, by omega, by omega, by omega, by omega, by omega⟩
theorem isG {x : Int} (h : W64 x) : x = GatM.gI (cG x) (kG x) (vG x) := by
  obtain ⟨_, _⟩ := h; unfold cG kG vG GatM.gI; omega
theorem fitF {x : Int} (h : W64 x) : FloM.Fit (cF x) (nF x) (sF x) := by
  obtain ⟨_, _⟩ := h; unfold cF nF sF; exact ⟨by omega, by omega, by omega, by omega, by omega, by omega⟩
theorem isF {x : Int} (h : W64 x) : x = FloM.gI (cF x) (nF x) (sF x) := by
  obtain ⟨_, _⟩ := h; unfold cF nF sF FloM.gI; omega
theorem wG {c k v : Int} (h : GatM.Fit c k v) : W64 (GatM.gI c k v) ∧ cG (GatM.gI c k v) = c ∧ kG (GatM.gI c k v) = k ∧ vG (GatM.gI c k v) = v := by
  obtain ⟨_, _, _, _, _, _⟩ := h; unfold W64 cG kG vG GatM.gI; omega
theorem wF {c k v : Int} (h : FloM.Fit c k v) : W64 (FloM.gI c k v) ∧ cF (FloM.gI c k v) = c ∧ nF (FloM.gI c k v) = k ∧ sF (FloM.gI c k v) = v := by
  obtain ⟨_, _, _, _, _, _⟩ := h; unfold W64 cF nF sF FloM.gI; omega
def tickW (x n : Int) : Int := GatM.gI (Ga.later (cG x) n) (kG x) (vG x)
def enterB (N x : Int) : Bool := decide (¬ N ≤ kG x ∧ kG x ≠ 4095)
def enterW (N x : Int) : Int := if enterB N x then GatM.gI (cG x) (kG x + 1) (vG x) else x
def leaveW (x : Int) : Int := if kG x = 0 then x else GatM.gI (cG x) (kG x - 1) (vG x)
def swapW (x : Int) : Int := if vG x = 4095 then x else GatM.gI (cG x) (kG x) (vG x + 1)
def swapV (x : Int) : Int := if vG x = 4095 then vG x else vG x + 1
def nextW (x s u : Int) : Int := FloM.gI (Fl.clip u) (Fl.up (nF x)) (s % 16)
def overW (x c : Int) : Bool := Fl.overB (cF x) (nF x) (sF x) c
def deadW : Int := FloM.gI 0 0 15
theorem fit_next {x : Int} (h : W64 x) (s u : Int) : FloM.Fit (Fl.clip u) (Fl.up (nF x)) (s % 16) := by
  have := fitF h
  obtain ⟨_, _, _, _, _, _⟩ := this
  unfold Fl.clip Fl.up
  refine ⟨?_, ?_, ?_, ?_, by omega, by omega⟩ <;> (repeat' split) <;> omega
theorem w_next {x : Int} (h : W64 x) (s u : Int) : W64 (nextW x s u) := (wF (fit_next h s u)).1
theorem fit_tick {x : Int} (h : W64 x) (n : Int) : GatM.Fit (Ga.later (cG x) n) (kG x) (vG x) := by
  have h1 := fitG h
  have h2 := Ga.later_fit (n := n) h1
  obtain ⟨_, _, _, _, _, _⟩ := h1
  exact ⟨by omega, by omega, by omega, by omega, by omega, by omega⟩
theorem w_tick {x : Int} (h : W64 x) (n : Int) : W64 (tickW x n) := (wG (fit_tick h n)).1
theorem fit_enter {x : Int} (h : W64 x) {N : Int} (hb : enterB N x = true) : GatM.Fit (cG x) (kG x + 1) (vG x) := by
  have h1 := fitG h
  obtain ⟨_, _, _, _, _, _⟩ := h1
  have := of_decide_eq_true hb
  exact ⟨by omega, by omega, by omega, by omega, by omega, by omega⟩
theorem w_enter {x : Int} (h : W64 x) (N : Int) : W64 (enterW N x) := by
  unfold enterW; split
  · rename_i hb; exact (wG (fit_enter h hb)).1
  · exact h
theorem fit_leave {x : Int} (h : W64 x) (hb : kG x ≠ 0) : GatM.Fit (cG x) (kG x - 1) (vG x) := by
  have h1 := fitG h
  obtain ⟨_, _, _, _, _, _⟩ := h1
  exact ⟨by omega, by omega, by omega, by omega, by omega, by omega⟩
theorem w_leave {x : Int} (h : W64 x) : W64 (leaveW x) := by
  unfold leaveW; split
  · exact h
  · rename_i hb; exact (wG (fit_leave h hb)).1
theorem fit_swap {x : Int} (h : W64 x) (hb : vG x ≠ 4095) : GatM.Fit (cG x) (kG x) (vG x + 1) := by
  have h1 := fitG h
  obtain ⟨_, _, _, _, _, _⟩ := h1
  exact ⟨by omega, by omega, by omega, by omega, by omega, by omega⟩
theorem w_swap {x : Int} (h : W64 x) : W64 (swapW x) := by
  unfold swapW; split
  · exact h
  · rename_i hb; exact (wG (fit_swap h hb)).1
theorem w_dead : W64 deadW := by unfold W64 deadW FloM.gI; omega

/-! The acts: what each leaves of what is shared, and of the op. -/
def say (S : Sh) (r : Rn) (kd : Int) (k : Ke) (v n : Int) : Sh := { S with pts := S.pts ++ [⟨kd, r.t, r.op, k, v, n⟩] }
def endA (S : Sh) (r : Rn) : Sh × Rn := (say S r 8 k0 r.v r.n, { r with at_ := .done, en := true })
def goto (r : Rn) (a : At) : Rn := { r with at_ := a }
def lockTo (r : Rn) (m : Int) (a : At) : Rn := { r with at_ := a, mu := m }
def countedA (S : Sh) (r : Rn) : Sh × Rn := endA (say S r 3 k0 r.v 0) r
/-- Loads. -/
def ldS (S : Sh) (r : Rn) (i : Int) : Sh := { S with ms := loadS S.ms r.t i }
def ldG (S : Sh) (r : Rn) : Rn := { r with wg := lookV S.ms 0 }
def ldF (S : Sh) (r : Rn) : Rn := { r with wf := lookV S.ms r.x }
def ldC (S : Sh) (r : Rn) : Rn := { r with wc := lookV S.ms r.v }
/-- Swaps. -/
def swS (S : Sh) (r : Rn) (i old now : Int) : Sh := { S with ms := swapS S.ms r.t i old now }
def isOver (r : Rn) : Bool := overW r.wf (cG r.wg)
def countA (S : Sh) (r : Rn) : Sh × Rn :=
  if lookV S.ms r.v = 18446744073709551615 then countedA (ldS S r r.v) (ldC S r) else (ldS S r r.v, goto (ldC S r) .add)
def addA (S : Sh) (r : Rn) : Sh × Rn :=
  if swapB S.ms r.v r.wc then countedA (swS S r r.v r.wc ((r.wc + 1) % 18446744073709551616)) r else (swS S r r.v r.wc ((r.wc + 1) % 18446744073709551616), goto r .count)
/-- The table, for who holds the stripe's mutex. -/
def hasB (C : Cf) (S : Sh) (r : Rn) : Bool := heldB S.ms r.t ((sOf C.n r.k : Nat) : Int)
def fndO (C : Cf) (S : Sh) (r : Rn) : Option TabM.Fl := if hasB C S r then TabM.find r.k S.fs else none
def toS (C : Cf) (S : Sh) (r : Rn) (kd : Int) : Sh := if hasB C S r then { S with ms := touchS S.ms r.t kd ((sOf C.n r.k : Nat) : Int) } else S
def fndR (C : Cf) (S : Sh) (r : Rn) : Rn := match fndO C S r with
  | some f => { r with x := f.x, tu := f.dn }
  | none => { r with x := 0, tu := false }
def remS (C : Cf) (S : Sh) (r : Rn) : Sh := if hasB C S r then { S with ms := touchS S.ms r.t 6 ((sOf C.n r.k : Nat) : Int), fs := TabM.drop r.k S.fs } else S
def putS (C : Cf) (S : Sh) (r : Rn) (x : Int) : Sh := if hasB C S r then { S with ms := touchS S.ms r.t 6 ((sOf C.n r.k : Nat) : Int), fs := upd ⟨r.k, x, r.dn⟩ S.fs } else S
def findA (C : Cf) (S : Sh) (r : Rn) : Sh × Rn := (toS C S r 5, goto (fndR C S r) (if (fndO C S r).isSome then .release else .absent))
def lookA (C : Cf) (S : Sh) (r : Rn) : Sh × Rn := (toS C S r 5, goto (fndR C S r) (if (fndO C S r).isSome then .again else .absent))
def freeS (S : Sh) (r : Rn) (m : Int) : Sh := { S with ms := unlockS S.ms r.t m }
def releaseA (S : Sh) (r : Rn) : Sh × Rn := (freeS S r r.st, goto r .load)
def loadA (S : Sh) (r : Rn) : Sh × Rn := (ldS S r r.x, if sF (lookV S.ms r.x) = 15 then lockTo (ldF S r) r.st .find else goto (ldF S r) .judge)
def neB (r : Rn) : Bool := Fs.neB (sF r.wf) (r.dn != r.tu) (r.p.pr : Int) (r.p.fl : Int) (r.p.kd : Int)
def neN (r : Rn) : Int := Fs.neN (sF r.wf) (r.dn != r.tu) (r.p.pr : Int) (r.p.fl : Int) (r.p.kd : Int)
def markS (S : Sh) : Sh := { S with pts := S.pts ++ [p0] }
def markR (S : Sh) (r : Rn) : Rn := { r with mr := S.pts.length }
def judgeR (r : Rn) : Rn := if isOver r then lockTo r r.st .look else if neB r then { r with tn := neN r, at_ := .advance } else goto r .sure
def judgeA (S : Sh) (r : Rn) : Sh × Rn := (markS (ldS S r 0), judgeR (markR S (ldG S r)))
def fillS (S : Sh) (r : Rn) (v : Int) : Sh := { S with pts := S.pts.set r.mr ⟨2, r.t, r.op, r.k, v, 0⟩ }
def changeA (S : Sh) (r : Rn) (s u v : Int) : Sh × Rn :=
  if swapB S.ms r.x r.wf then (fillS (swS S r r.x r.wf (nextW r.wf s u)) r v, { r with v := v, at_ := .count }) else (swS S r r.x r.wf (nextW r.wf s u), goto r .load)
def untilN (C : Cf) (r : Rn) : Int := Fs.untN C.T r.tn (cG r.wg)
def advanceA (C : Cf) (S : Sh) (r : Rn) : Sh × Rn := changeA S r r.tn (untilN C r) 1
def sureA (S : Sh) (r : Rn) : Sh × Rn := changeA S r (sF r.wf) (cF r.wf) 4
def againA (S : Sh) (r : Rn) : Sh × Rn := (ldS S r r.x, goto (ldF S r) .over)
def overA (S : Sh) (r : Rn) : Sh × Rn := (ldS S r 0, goto (ldG S r) (if isOver (ldG S r) then .kill else .release))
/-- Does it sweep? -/
def sweeps (q : Nat) : Bool := q == 4 || q == 6
def killA (C : Cf) (S : Sh) (r : Rn) : Sh × Rn :=
  if swapB S.ms r.x r.wf then (remS C (swS S r r.x r.wf deadW) r, goto r .less) else (swS S r r.x r.wf deadW, goto r (if sweeps r.q then .visit else .again))
def lessA (S : Sh) (r : Rn) : Sh × Rn := (ldS S r 0, goto (ldG S r) .leave)
def proceedR (r : Rn) : Rn := match r.ks with
  | [] => goto r .finish
  | k :: ks => { r with k := k, ks := ks, at_ := .visit }
def goneR (r : Rn) : Rn := if sweeps r.q then proceedR { r with n := IntKind.i64.wrap (r.n + 1) } else goto r .absent
def leaveA (S : Sh) (r : Rn) : Sh × Rn :=
  if swapB S.ms 0 r.wg then (say (swS S r 0 r.wg (leaveW r.wg)) r 4 r.k 0 (if r.q = 4 then 1 else 0), goneR r) else (swS S r 0 r.wg (leaveW r.wg), goto r .less)
/-- A packet of no flow. -/
def opB (r : Rn) : Bool := Fs.opB (r.p.pr : Int) (r.p.fl : Int) (r.p.kd : Int)
def opN (r : Rn) : Int := Fs.opN (r.p.pr : Int) (r.p.fl : Int) (r.p.kd : Int)
def admitV (C : Cf) (r : Rn) (l : List R) : Int := if accB l (fst r.p l) = false then 3 else if opB r = false then 4 else if enterB C.N r.wg = false then 5 else 1
def decideA (S : Sh) (r : Rn) (v : Int) : Sh × Rn := (say S r 2 r.k v 0, { r with v := v, at_ := .unlock })
def readS (C : Cf) (S : Sh) (r : Rn) : Sh := { S with ms := touchS S.ms r.t 5 ((C.n : Int) + vG r.wg) }
def absentR (C : Cf) (S : Sh) (r : Rn) : Sh × Rn :=
  if admitV C r (S.rl (vG r.wg)) = 1 then (readS C S r, { r with tn := opN r, at_ := .enter }) else decideA (readS C S r) r (admitV C r (S.rl (vG r.wg)))
def absentA (C : Cf) (S : Sh) (r : Rn) : Sh × Rn := absentR C (ldS S r 0) (ldG S r)
def mewS (S : Sh) (x : Int) : Sh := { S with ms := moreS S.ms x }
def enterA (C : Cf) (S : Sh) (r : Rn) : Sh × Rn :=
  if swapB S.ms 0 r.wg then
    decideA (putS C (mewS (swS S r 0 r.wg (enterW C.N r.wg)) (nextW 0 r.tn (untilN C r))) r ((swS S r 0 r.wg (enterW C.N r.wg)).ms.ws.length : Int)) r 1
  else (swS S r 0 r.wg (enterW C.N r.wg), goto r .absent)
def unlockA (S : Sh) (r : Rn) : Sh × Rn := (freeS S r r.st, goto r .count)
def malformedA (S : Sh) (r : Rn) : Sh × Rn := countA (say S r 2 k0 2 0) { r with v := 2 }
def readClockA (S : Sh) (r : Rn) : Sh × Rn := (ldS S r 0, goto (ldG S r) .tick)
def tickA (S : Sh) (r : Rn) : Sh × Rn :=
  if swapB S.ms 0 r.wg then endA (say (swS S r 0 r.wg (tickW r.wg r.z)) r 5 k0 0 r.z) { r with n := Ga.later (cG r.wg) r.z } else (swS S r 0 r.wg (tickW r.wg r.z), goto r .readClock)
def claimA (S : Sh) (r : Rn) : Sh × Rn := (S, goto r .prepare)
def setL (rl : Int → List R) (i : Int) (l : List R) : Int → List R := fun j => if j = i then l else rl j
def writeS (C : Cf) (S : Sh) (r : Rn) : Sh := { S with ms := touchS S.ms r.t 6 ((C.n : Int) + (vG r.wg + 1)), rl := setL S.rl (vG r.wg + 1) r.li }
def prepareR (C : Cf) (S : Sh) (r : Rn) : Sh × Rn := if vG r.wg = 4095 then (S, { r with e := 2, at_ := .disclaim }) else (writeS C S r, goto r .publish)
def prepareA (C : Cf) (S : Sh) (r : Rn) : Sh × Rn := prepareR C (ldS S r 0) (ldG S r)
def publishA (S : Sh) (r : Rn) : Sh × Rn :=
  if swapB S.ms 0 r.wg then
    (say { swS S r 0 r.wg (swapW r.wg) with rl := setL S.rl (swapV r.wg - 1) [] } r 6 k0 0 (swapV r.wg), { r with n := swapV r.wg, at_ := .disclaim })
  else (swS S r 0 r.wg (swapW r.wg), goto r .prepare)
def disclaimA (C : Cf) (S : Sh) (r : Rn) : Sh × Rn := endA (freeS S r C.n) r
def statA (S : Sh) (r : Rn) : Sh × Rn :=
  endA (say (ldS S r r.z) r 7 k0 r.z (IntKind.i64.wrap (lookV S.ms r.z))) { r with n := IntKind.i64.wrap (lookV S.ms r.z) }
/-- The keys of a stripe, for who holds its mutex. -/
def keysL (C : Cf) (S : Sh) (r : Rn) : List Ke := if r.st < C.n ∧ heldB S.ms r.t (r.st : Int) = true then (Tb.part C.n r.st S.fs).map (·.k) else []
def keysS (C : Cf) (S : Sh) (r : Rn) : Sh := if r.st < C.n ∧ heldB S.ms r.t (r.st : Int) = true then { S with ms := touchS S.ms r.t 5 (r.st : Int) } else S
def takeA (C : Cf) (S : Sh) (r : Rn) : Sh × Rn := (keysS C S r, proceedR { r with ks := keysL C S r })
def visitA (C : Cf) (S : Sh) (r : Rn) : Sh × Rn :=
  (ldS (toS C S r 5) (fndR C S r) (fndR C S r).x, goto (ldF (toS C S r 5) (fndR C S r)) (if r.q = 4 then .kill else .inspect))
def inspectA (S : Sh) (r : Rn) : Sh × Rn := (ldS S r 0, if isOver (ldG S r) then goto (ldG S r) .kill else proceedR (ldG S r))
def finishA (C : Cf) (S : Sh) (r : Rn) : Sh × Rn :=
  if r.st + 1 = C.n then endA (freeS S r r.st) { r with st := r.st + 1 } else (freeS S r r.st, lockTo { r with st := r.st + 1 } ((r.st + 1 : Nat) : Int) .take)

/-- One act, its mutex locked. -/
def actA (C : Cf) (S : Sh) (r : Rn) : Sh × Rn := match r.at_ with
  | .find => findA C S r
  | .release => releaseA S r
  | .load => loadA S r
  | .judge => judgeA S r
  | .advance => advanceA C S r
  | .sure => sureA S r
  | .look => lookA C S r
  | .again => againA S r
  | .over => overA S r
  | .kill => killA C S r
  | .less => lessA S r
  | .leave => leaveA S r
  | .absent => absentA C S r
  | .enter => enterA C S r
  | .unlock => unlockA S r
  | .malformed => malformedA S r
  | .count => countA S r
  | .add => addA S r
  | .readClock => readClockA S r
  | .tick => tickA S r
  | .claim => claimA S r
  | .prepare => prepareA C S r
  | .publish => publishA S r
  | .disclaim => disclaimA C S r
  | .stat => statA S r
  | .take => takeA C S r
  | .visit => visitA C S r
  | .inspect => inspectA S r
  | .finish => finishA C S r
  | .endOp => endA S r
  | .done => (S, r)
/-- Can it do its next act? -/
def canB (S : Sh) (r : Rn) : Bool := decide (r.at_ ≠ .done) && (r.mu == -1 || lockB S.ms r.t r.mu)
def blockedB (S : Sh) (r : Rn) : Bool := decide (r.at_ ≠ .done) && !(holdV S.ms r.mu == -1)
def lockedS (S : Sh) (r : Rn) : Sh := if r.mu = -1 then S else { S with ms := lockS S.ms r.t r.mu }
def calledS (S : Sh) (r : Rn) : Sh := if r.cal then S else say S r 1 k0 0 0
def stepA (C : Cf) (S : Sh) (r : Rn) : Sh × Rn := if canB S r then actA C (calledS (lockedS S r) r) { r with mu := -1, cal := true } else (S, r)
/-- An op that begins. -/
def r0 (t op : Int) : Rn := ⟨t, op, .endOp, -1, false, false, 0, 0, 0, 0, [], ⟨0, 0, 0, 0, 0, 0, 0⟩, false, 0, 0, [], k0, 0, false, 0, 0, 0, 0, 0⟩
/-- What always holds of an op, beside what is shared. -/
structure Fit (C : Cf) (S : Sh) (r : Rn) : Prop where
  wf : W64 r.wf
  wg : W64 r.wg
  wc : W64 r.wc
  k : r.k.Ok
  p : r.p.Ok
  st : r.st ≤ C.n
  cn : C.n ≤ 4096
  cT : ∀ i, -9223372036854775808 ≤ C.T i ∧ C.T i ≤ 9223372036854775807
  z : -9223372036854775808 ≤ r.z ∧ r.z ≤ 9223372036854775807
  mr : r.at_ = .advance ∨ r.at_ = .sure → r.mr < S.pts.length
  q : r.at_ = .kill ∨ r.at_ = .less ∨ r.at_ = .leave → r.q = 1 ∨ sweeps r.q = true
  tt : 0 ≤ r.t ∧ r.t ≤ 9223372036854775807
/-! There is room: for n more accesses, points, words, flows. -/
structure Rm (n : Nat) (S : Sh) : Prop where
  l : S.ms.ls.length + n ≤ 1000000000000
  f : S.fs.length + n ≤ 100000
  p : S.pts.length + n ≤ 900000000000
  w : S.ms.ws.length + n < 1000000000000
theorem len_say (s : Ms) (t k p : Int) : (MemM.say s t k p).ls.length = s.ls.length + 1 ∧ (MemM.say s t k p).ws = s.ws := by unfold MemM.say; simp
theorem len_load (s : Ms) (t i : Int) : (loadS s t i).ls.length ≤ s.ls.length + 1 ∧ (loadS s t i).ws.length = s.ws.length := by
  unfold loadS; split
  · have := len_say s t 3 (3 * i); rw [this.1, this.2]; exact ⟨by omega, rfl⟩
  · exact ⟨by omega, rfl⟩
theorem len_swap (s : Ms) (t i o x : Int) : (swapS s t i o x).ls.length ≤ s.ls.length + 1 ∧ (swapS s t i o x).ws.length = s.ws.length := by
  unfold swapS; split
  · split
    · have := len_say { s with ws := s.ws.set i.toNat x } t 4 (3 * i); rw [this.1, this.2]; exact ⟨by simp, by simp⟩
    · have := len_say s t 3 (3 * i); rw [this.1, this.2]; exact ⟨by omega, rfl⟩
  · exact ⟨by omega, rfl⟩
theorem len_lock (s : Ms) (t i : Int) : (lockS s t i).ls.length ≤ s.ls.length + 1 ∧ (lockS s t i).ws.length = s.ws.length := by
  unfold lockS; split
  · have := len_say { s with hs := s.hs.set i.toNat t } t 1 (3 * i + 1); rw [this.1, this.2]; exact ⟨by simp, rfl⟩
  · exact ⟨by omega, rfl⟩
theorem len_unlock (s : Ms) (t i : Int) : (unlockS s t i).ls.length ≤ s.ls.length + 1 ∧ (unlockS s t i).ws.length = s.ws.length := by
  unfold unlockS; split
  · have := len_say { s with hs := s.hs.set i.toNat (-1) } t 2 (3 * i + 1); rw [this.1, this.2]; exact ⟨by simp, rfl⟩
  · exact ⟨by omega, rfl⟩
theorem len_touch (s : Ms) (t k i : Int) : (touchS s t k i).ls.length ≤ s.ls.length + 1 ∧ (touchS s t k i).ws.length = s.ws.length := by
  unfold touchS; split
  · have := len_say s t k (3 * i + 2); rw [this.1, this.2]; exact ⟨by omega, rfl⟩
  · exact ⟨by omega, rfl⟩
section
variable {n : Nat} {C : Cf} {S : Sh} {r : Rn}
theorem Rm.mono (h : Rm n S) {m : Nat} (hm : m ≤ n) : Rm m S := ⟨by have := h.l; omega, by have := h.f; omega, by have := h.p; omega, by have := h.w; omega⟩
theorem Rm.ld (h : Rm (n + 1) S) (i : Int) : Rm n (ldS S r i) := by
  have := len_load S.ms r.t i
  exact ⟨by have := h.l; show (loadS S.ms r.t i).ls.length + n ≤ _; omega, by have := h.f; show S.fs.length + n ≤ _; omega, by have := h.p; show S.pts.length + n ≤ _; omega, by have := h.w; show (loadS S.ms r.t i).ws.length + n < _; omega⟩
theorem Rm.sw (h : Rm (n + 1) S) (i o x : Int) : Rm n (swS S r i o x) := by
  have := len_swap S.ms r.t i o x
  exact ⟨by have := h.l; show (swapS S.ms r.t i o x).ls.length + n ≤ _; omega, by have := h.f; show S.fs.length + n ≤ _; omega, by have := h.p; show S.pts.length + n ≤ _; omega, by have := h.w; show (swapS S.ms r.t i o x).ws.length + n < _; omega⟩
theorem Rm.free (h : Rm (n + 1) S) (i : Int) : Rm n (freeS S r i) := by
  have := len_unlock S.ms r.t i
  exact ⟨by have := h.l; show (unlockS S.ms r.t i).ls.length + n ≤ _; omega, by have := h.f; show S.fs.length + n ≤ _; omega, by have := h.p; show S.pts.length + n ≤ _; omega, by have := h.w; show (unlockS S.ms r.t i).ws.length + n < _; omega⟩
theorem Rm.touch (h : Rm (n + 1) S) (k i : Int) : Rm n { S with ms := touchS S.ms r.t k i } := by
  have := len_touch S.ms r.t k i
  exact ⟨by have := h.l; show (touchS S.ms r.t k i).ls.length + n ≤ _; omega, by have := h.f; show S.fs.length + n ≤ _; omega, by have := h.p; show S.pts.length + n ≤ _; omega, by have := h.w; show (touchS S.ms r.t k i).ws.length + n < _; omega⟩
theorem Rm.to (h : Rm (n + 1) S) (k : Int) : Rm n (toS C S r k) := by
  unfold toS; split
  · exact h.touch k _
  · exact h.mono (by omega)
theorem Rm.rem (h : Rm (n + 1) S) : Rm n (remS C S r) := by
  unfold remS; split
  · have := len_touch S.ms r.t 6 ((sOf C.n r.k : Nat) : Int)
    have h2 := Tb.len_drop_le r.k S.fs
    exact ⟨by have := h.l; show (touchS S.ms r.t 6 _).ls.length + n ≤ _; omega, by have := h.f; show (TabM.drop r.k S.fs).length + n ≤ _; omega, by have := h.p; show S.pts.length + n ≤ _; omega, by have := h.w; show (touchS S.ms r.t 6 _).ws.length + n < _; omega⟩
  · exact h.mono (by omega)
theorem Rm.put (h : Rm (n + 1) S) (x : Int) : Rm n (putS C S r x) := by
  unfold putS; split
  · have := len_touch S.ms r.t 6 ((sOf C.n r.k : Nat) : Int)
    have h2 := Tb.len_upd ⟨r.k, x, r.dn⟩ S.fs
    exact ⟨by have := h.l; show (touchS S.ms r.t 6 _).ls.length + n ≤ _; omega, by have := h.f; show (upd ⟨r.k, x, r.dn⟩ S.fs).length + n ≤ _; omega, by have := h.p; show S.pts.length + n ≤ _; omega, by have := h.w; show (touchS S.ms r.t 6 _).ws.length + n < _; omega⟩
  · exact h.mono (by omega)
theorem Rm.say (h : Rm (n + 1) S) (kd : Int) (k : Ke) (v x : Int) : Rm n (say S r kd k v x) :=
  ⟨by have := h.l; show S.ms.ls.length + n ≤ _; omega, by have := h.f; show S.fs.length + n ≤ _; omega, by have := h.p; simp only [Pg.say, List.length_append, List.length_cons, List.length_nil]; omega, by have := h.w; show S.ms.ws.length + n < _; omega⟩
theorem Rm.mark (h : Rm (n + 1) S) : Rm n (markS S) :=
  ⟨by have := h.l; show S.ms.ls.length + n ≤ _; omega, by have := h.f; show S.fs.length + n ≤ _; omega, by have := h.p; simp only [markS, List.length_append, List.length_cons, List.length_nil]; omega, by have := h.w; show S.ms.ws.length + n < _; omega⟩
theorem Rm.mew (h : Rm (n + 1) S) (x : Int) : Rm n (mewS S x) :=
  ⟨by have := h.l; show S.ms.ls.length + n ≤ _; omega, by have := h.f; show S.fs.length + n ≤ _; omega, by have := h.p; show S.pts.length + n ≤ _; omega, by have := h.w; simp only [mewS, moreS, List.length_append, List.length_cons, List.length_nil]; omega⟩
end
end Pg
end Go.Proofs.YtcockldefmmhbaaGreatDoor
/- Layer 20: the program's New. -/
set_option linter.unusedVariables false
set_option linter.unusedSimpArgs false
set_option maxRecDepth 100000
namespace Go.Proofs.YtcockldefmmhbaaGreatDoor
open Go.ChangeShapes Go.WideShapes Go.ChangeAt Go.RowKit Go.Mtl Go.Lib
namespace Tb
open TabM
open KeyM (isPow)
open MemM (Ms)
open Me (ptr)
theorem count_ones (x : Int) (w : World) : Calls Tryz.prog 59 #[.int .u64 x] w fun e w' => e = .returned (.int .i64 (Au.ones x)) ∧ w = w' := by
  have HO := Lib.hid (fun W => Au.ones_any x W)
  generalize Au.ones x = y at HO
  go_enter Tryz.func59, Tryz.ntmps59
  go_wp2_with (go_at_call 92; refine (HO.out _).mono ?_; rintro e w' ⟨rfl, rfl⟩)
  go_ret
  exact ⟨rfl, rfl⟩
theorem pow_is {z : Int} (h1 : 1 ≤ z) (h2 : z ≤ 4096) : (Au.ones z == 1) = isPow z := by
  have e : z = ((⟨z.toNat, by omega⟩ : Fin 4097).val : Int) := by simp; omega
  have h := Au.ones_pow ⟨z.toNat, by omega⟩
  rwa [← e] at h
theorem flows_info : (Tryz.prog.info? 133).map (fun i => (i.zero, i.size, i.bytes)) = some (some (.map none), 1, 8) := by kernel_rfl
/-- The row of maps: j of n are made. -/
def mrow (n j : Nat) (M : Nat → Nat) : List Value := (List.range n).map fun i => if i < j then .map (some (M i)) else .map none
theorem mrow_at {n j : Nat} {M : Nat → Nat} {i : Nat} (hi : i < n) : (mrow n j M)[i]? = some (if i < j then .map (some (M i)) else .map none) := by
  unfold mrow
  rw [List.getElem?_map, List.getElem?_range hi]
  rfl
theorem made_maps (n : Nat) (M : Nat → Nat) : (madeCells (Value.map none).cells (n * 1)).toList = mrow n 0 M := by
  rw [show (Value.map none).cells = #[.map none] from rfl, toList_madeCells_one]
  unfold mrow
  apply List.ext_getElem?
  intro i
  simp [List.getElem?_replicate, List.getElem?_range]
  by_cases h : i < n
  · simp [h, List.getElem?_range]
  · simp [h, List.getElem?_eq_none]
def mset (M : Nat → Nat) (j m : Nat) (i : Nat) : Nat := if i = j then m else M i
theorem mrow_set {n j m : Nat} {M : Nat → Nat} (hj : j < n) : (mrow n j M).toArray.setIfInBounds j (.map (some m)) = (mrow n (j + 1) (mset M j m)).toArray := by
  rw [List.setIfInBounds_toArray]
  congr 1
  apply List.ext_getElem?
  intro i
  by_cases hi : i < n
  · rw [List.getElem?_set, mrow_at (j := j + 1) hi]
    by_cases e : j = i
    · subst e
      rw [if_pos rfl, if_pos (by unfold mrow; simpa using hj), if_pos (by omega)]
      rw [show mset M j m j = m from if_pos rfl]
    · rw [if_neg e, mrow_at hi]
      rw [show mset M j m i = M i from if_neg (fun h => e h.symm)]
      by_cases h2 : i < j
      · rw [if_pos h2, if_pos (by omega)]
      · rw [if_neg h2, if_neg (by omega)]
  · rw [List.getElem?_eq_none (by simp [mrow]; omega), List.getElem?_eq_none (by simp [mrow]; omega)]
/-- A table of which j stripes are made. -/
structure NW (w0 : World) (mb B n S : Nat) (M : Nat → Nat) (j : Nat) (W : World) : Prop where
  blk : Blk W B #[ptr mb, .slice (some ⟨S, 0, none⟩) n n] 131
  row : Blk W S (mrow n j M).toArray 133
  map : ∀ i, i < j → MapAt W (M i) []
  inj : ∀ i i', i < j → i' < j → M i = M i' → i = i'
  ns : S ≠ B
  nm : ∀ i, i < j → M i ≠ B ∧ M i ≠ S
  nb : w0.heap.size ≤ B
  nS : w0.heap.size ≤ S
  nM : ∀ i, i < j → w0.heap.size ≤ M i
  bel : Below w0.heap.size w0 W
section
variable {w0 W : World} {mb B n S j : Nat} {M : Nat → Nat}
theorem NW.step (H : NW w0 mb B n S M j W) (hj : j < n) : NW w0 mb B n S (mset M j W.heap.size) (j + 1) ((W.alloc (.map #[] 0)).setCell ⟨S, j, none⟩ (.map (some W.heap.size))) := by
  have hS := H.row.lt
  have hB := H.blk.lt
  have hset : ∀ i, i < j → mset M j W.heap.size i = M i := fun i hi => if_neg (by omega)
  have hself : mset M j W.heap.size j = W.heap.size := if_pos rfl
  have hMl : ∀ i, i < j → M i < W.heap.size := fun i hi => (H.map i hi).lt
  have ho : ∀ g, g ≠ S → ((W.alloc (.map #[] 0)).setCell ⟨S, j, none⟩ (.map (some W.heap.size))).heap[g]? = (W.alloc (.map #[] 0)).heap[g]? := fun g hg => Below.heap_setCell _ _ _ _ hg
  refine ⟨?_, ?_, fun i hi => ?_, fun i i' hi hi' e => ?_, H.ns, fun i hi => ?_, H.nb, H.nS, fun i hi => ?_, ?_⟩
  · exact (H.blk.alloc _).keep (ho B H.ns.symm)
  · have := (H.row.alloc (.map #[] 0)).set' j (.map (some W.heap.size)) (mrow_set (M := M) (m := W.heap.size) hj)
    exact this
  · by_cases e : i = j
    · subst e
      rw [hself]
      exact (MapAt.new W).keep (ho _ (by omega))
    · rw [hset i (by omega)]
      exact (H.map i (by omega)).keep ((ho _ (H.nm i (by omega)).2).trans (Below.heap_alloc _ _ _ (hMl i (by omega))))
  · by_cases e1 : i = j <;> by_cases e2 : i' = j
    · omega
    · subst e1; rw [hself, hset i' (by omega)] at e; have := hMl i' (by omega); omega
    · subst e2; rw [hself, hset i (by omega)] at e; have := hMl i (by omega); omega
    · rw [hset i (by omega), hset i' (by omega)] at e; exact H.inj i i' (by omega) (by omega) e
  · by_cases e : i = j
    · subst e; rw [hself]; omega
    · rw [hset i (by omega)]; exact H.nm i (by omega)
  · by_cases e : i = j
    · subst e; rw [hself]; exact H.bel.size
    · rw [hset i (by omega)]; exact H.nM i (by omega)
  · exact (H.bel.alloc H.bel.size _).setCell (p := ⟨S, j, none⟩) (by have := H.nS; simpa using this) _
theorem NW.done (H : NW w0 mb B n S M n W) (hn : isPow (n : Int) = true) : TAt W (fun j => w0.heap.size ≤ j ∧ j < W.heap.size) B mb n [] ∧ ∀ j, (w0.heap.size ≤ j ∧ j < W.heap.size) → w0.heap.size ≤ j := by
  refine ⟨⟨⟨S, M, H.blk, fun i hi => ?_, fun i hi => H.map i hi, H.inj, H.ns, H.nm, ⟨H.nb, H.blk.lt⟩, ⟨H.nS, H.row.lt⟩, fun i hi => ⟨H.nM i hi, (H.map i hi).lt⟩, fun j hj => hj.2⟩, Oks.nil, hn⟩, fun j hj => hj.1⟩
  have := H.row.cell i (.map (some (M i))) (by
    rw [List.getElem?_toArray, mrow_at hi, if_pos hi])
  exact this
end
set_option maxHeartbeats 2000000 in
theorem new_ok (w : World) (mb n : Nat) (hp : isPow (n : Int) = true) : Calls Tryz.prog 33 #[ptr mb, .int .i64 (n : Int)] w fun e w' => ∃ O B, e = .returned (ptr B) ∧ TAt w' O B mb n [] ∧ Below w.heap.size w w' ∧ ∀ j, O j → w.heap.size ≤ j := by
  have hb := KeyM.isPow_bd hp
  have HP := Lib.hid (pow_is hb.1 hb.2)
  have HO := Lib.hid (fun W => count_ones (n : Int) W)
  have hw : IntKind.u64.wrap (n : Int) = n := by simp [IntKind.wrap, IntKind.bits, IntKind.signed]; omega
  generalize Au.ones (n : Int) = oz at HP HO
  have hq : (oz == 1) = true := HP.out.trans hp
  have HPW := Lib.hid hp
  obtain ⟨i0, hi0, hz0, hz1, hz2⟩ := info_parts flows_info
  have HI : Hid (Tryz.prog.info? 133 = some i0 ∧ i0.zero = some (.map none) ∧ i0.size = 1 ∧ i0.bytes = 8) := ⟨hi0, hz0, hz1, hz2⟩
  have d1 : decide ((n : Int) < 1) = false := decide_eq_false (by omega)
  have d2 : decide ((4096 : Int) < n) = false := decide_eq_false (by omega)
  have hn1 : n ≤ 4096 := by omega
  clear hp HP hi0 hz0 hz1 hz2 hb
  go_enter Tryz.func33, Tryz.ntmps33
  go_wp2_with fail
  go_at_call 59
  refine (HO.out _).mono ?_
  rintro e w1 ⟨rfl, rfl⟩
  go_wp2_with (at_make; refine wpList_make_full _ rfl (.tmp 24) (.tmp 24) _ rfl w.heap.size 133 i0 _ 1 Tryz.underlying129 HI.out.1 HI.out.2.1 HI.out.2.2.1 .i64 .i64 (n : Int) (n : Int) n rfl rfl rfl rfl (by rw [HI.out.2.2.2]; omega) (by unfold maxLen; omega) (Nat.le_refl _) ?_; intro w1 hown hgr; rw [made_maps n (fun _ => 0)] at hown; have HG := Lib.hid (Me.own_whole hown); have HB := Lib.hid ((Below.refl w.heap.size w).grown hgr (Nat.le_refl _) (fun k e => by cases e)); clear hown hgr)
  have h0 : NW w mb w1.heap.size n w.heap.size (fun _ => 0) 0 (w1.alloc (.cells #[ptr mb, .slice (some ⟨w.heap.size, 0, none⟩) n n] 131)) := by
    have hr : Blk w1 w.heap.size (mrow n 0 (fun _ => 0)).toArray 133 := HG.out
    have hlt := hr.lt
    exact ⟨Blk.box w1 _ _, hr.alloc _, fun i hi => absurd hi (by omega), fun i i' hi => absurd hi (by omega), by omega, fun i hi => absurd hi (by omega), HB.out.size, Nat.le_refl _, fun i hi => absurd hi (by omega), HB.out.alloc HB.out.size _⟩
  have H0 := Lib.hid h0
  have HC0 := Lib.hid (h0.blk.cell 1 _ rfl)
  obtain ⟨B, hB⟩ : ∃ g, w1.heap.size = g := ⟨_, rfl⟩
  obtain ⟨S, hS⟩ : ∃ g, w.heap.size = g := ⟨_, rfl⟩
  obtain ⟨w2, hw2⟩ : ∃ v, w1.alloc (.cells #[ptr mb, .slice (some ⟨w.heap.size, 0, none⟩) n n] 131) = v := ⟨_, rfl⟩
  rw [hw2] at H0 HC0 ⊢
  rw [hS] at H0 HC0 ⊢
  rw [hB] at H0 HC0 ⊢
  have HSS : Hid (w.heap.size = S) := hS
  clear hw2 hS hB h0 HG HB
  have c1 := HC0.out
  go_wp2_with fail
  go_loopw [33] (fun vi wr => ∃ (j : Nat) (M : Nat → Nat), vi = .int .i64 (j : Int) ∧ j ≤ n ∧ Hid (NW w mb B n S M j wr)) (fun vi _ => n - (RowKit.intOf vi).toNat)
  case atStart => exact ⟨0, _, rfl, Nat.zero_le _, H0⟩
  case round =>
    obtain ⟨j, M, rfl, hj, HN⟩ := hrel
    clear c1 HC0 H0
    by_cases h1 : j < n
    · have c1 := HN.out.blk.cell 1 _ rfl
      have HST := Lib.hid (HN.out.step h1)
      have HC2 := Lib.hid ((HN.out.blk.alloc (.map #[] 0)).cell 1 _ rfl)
      have hcell := (HN.out.row.alloc (.map #[] 0)).cell j (.map none) (by rw [List.getElem?_toArray, mrow_at h1, if_neg (Nat.lt_irrefl _)])
      have hfr := (HN.out.row.alloc (.map #[] 0)).frozen j
      have hmm : ∀ w, (Instr.makeMap 133 none).run Tryz.prog w = .ok (.map (some w.heap.size)) (w.alloc (.map #[] 0)) := fun w => rfl
      go_wp2_with fail
      go_roundw
      case rel => exact ⟨j + 1, _, by go_num, by omega, HST⟩
      case measure => simp [RowKit.intOf]; omega
    · obtain rfl : j = n := by omega
      have c1 := HN.out.blk.cell 1 _ rfl
      go_wp2_with fail
      go_ret
      exact ⟨_, B, rfl, (HN.out.done HPW.out).1, HN.out.bel, (HN.out.done HPW.out).2⟩
end Tb
end Go.Proofs.YtcockldefmmhbaaGreatDoor
/- Layer 21, plain mathematics: an op that begins. -/
set_option linter.unusedVariables false
set_option linter.unusedSimpArgs false
namespace Go.Proofs.YtcockldefmmhbaaGreatDoor
open Go.Mtl
namespace Pg
open RulM (R)
open AutM (Ke)
open MatM (K)
open IpM (four four_lt)
open WirM (errW spN dpN flN kdN)
/-- An op that has nothing yet. -/
def rz (t op : Int) : Rn := { r0 t op with at_ := .done }
def refuseR (r : Rn) (x : Int) : Rn := { r with e := x, at_ := .endOp }
def dnP (p : K) : Bool := KeyM.lowB p.ds p.dp p.sr p.sp
def keyP (p : K) : Ke := if dnP p then ⟨p.ds, p.sr, p.dp, p.sp, p.pr⟩ else ⟨p.sr, p.ds, p.sp, p.dp, p.pr⟩
theorem keyP_ok {p : K} (h : p.Ok) : (keyP p).Ok := by
  have := h.pr; have := h.sr; have := h.ds; have := h.sp; have := h.dp
  unfold keyP; split <;> exact ⟨by assumption, by assumption, by assumption, by assumption, by assumption⟩
/-- The packet that is parsed. -/
def pkR (bs : List UInt8) : K := ⟨byt bs 9, four bs 12, four bs 16, spN bs, dpN bs, flN bs, kdN bs⟩
theorem pkR_ok (bs : List UInt8) : (pkR bs).Ok := ⟨byt_lt bs 9, four_lt bs 12, four_lt bs 16, WirM.spN_lt bs, WirM.dpN_lt bs, by have := WirM.flN_lt bs; show flN bs < 256; omega, WirM.kdN_lt bs⟩
def packR (C : Cf) (r : Rn) (bs : List UInt8) : Rn :=
  if errW bs = 0 then { r with p := pkR bs, k := keyP (pkR bs), dn := dnP (pkR bs), st := Tb.sOf C.n (keyP (pkR bs)), q := 1, mu := ((Tb.sOf C.n (keyP (pkR bs)) : Nat) : Int), at_ := .find }
  else { r with e := (errW bs : Int), at_ := .malformed }
def swpR (C : Cf) (r : Rn) (l : List UInt8) : Rn := if (RulM.compile l).2.2 = 0 then { r with li := (RulM.compile l).1, mu := (C.n : Int), at_ := .claim } else refuseR r ((RulM.compile l).2.2 : Int)
def sweepR (r : Rn) (fl : Bool) : Rn := { r with q := if fl then 4 else 6, mu := (r.st : Int), at_ := .take }
def statR (r : Rn) (n : Int) : Rn := if 1 ≤ n ∧ n ≤ 5 then { r with z := n, at_ := .stat } else refuseR r 1
/-- The op that begins. -/
def begR (C : Cf) (t op kd n : Int) (bs l : List UInt8) : Rn :=
  if kd = 1 then packR C (rz t op) bs else if kd = 2 then { rz t op with z := n, at_ := .readClock } else if kd = 3 then swpR C (rz t op) l
  else if kd = 4 then sweepR (rz t op) true else if kd = 6 then sweepR (rz t op) false else if kd = 5 then statR (rz t op) n else refuseR (rz t op) 1
end Pg
end Go.Proofs.YtcockldefmmhbaaGreatDoor
/- Layer 21, plain mathematics: what always holds of an op and of what it shares (Ri), and what a step of it may turn (Stp). -/
set_option linter.unusedVariables false
set_option linter.unusedSimpArgs false
namespace Go.Proofs.YtcockldefmmhbaaGreatDoor
namespace Pg
open MemM (Ms lookV loadS swapB swapS holdV lockB lockS unlockS unlockV touchS moreS has at_)
open RulM (R)
open MatM (K fst accB)
open AutM (Ke)
open Tb (sOf heldB upd)
open TabM (find Oks)

/-! Memories. -/
section
variable {s : Ms} {t i j : Int}
theorem look_load : lookV (loadS s t i) j = lookV s j := by unfold loadS; split <;> rfl
theorem hold_load : holdV (loadS s t i) j = holdV s j := by unfold loadS; split <;> rfl
theorem look_touch (k : Int) : lookV (touchS s t k i) j = lookV s j := by unfold touchS; split <;> rfl
theorem hold_touch (k : Int) : holdV (touchS s t k i) j = holdV s j := by unfold touchS; split <;> rfl
theorem look_lock : lookV (lockS s t i) j = lookV s j := by unfold lockS; split <;> rfl
theorem look_unlock : lookV (unlockS s t i) j = lookV s j := by unfold unlockS; split <;> rfl
theorem hold_swap (o x : Int) : holdV (swapS s t i o x) j = holdV s j := by unfold swapS; split; split <;> rfl; rfl
theorem hold_more (x : Int) : holdV (moreS s x) j = holdV s j := rfl
theorem at_set {l : List Int} {i j x : Int} (hi : has l.length i = true) (hj : 0 ≤ j) : at_ (l.set i.toNat x) j = if j = i then x else at_ l j := by
  obtain ⟨a, rfl, ha⟩ := MemM.has_yes hi
  have : (j.toNat = a) ↔ (j = (a : Int)) := by omega
  unfold at_
  simp only [List.getD, Int.toNat_natCast, List.getElem?_set]
  by_cases e : j = (a : Int)
  · subst e
    simp [ha]
  · rw [if_neg (by omega), if_neg e]
theorem look_swap_no (o x : Int) (h : swapB s i o = false) : lookV (swapS s t i o x) j = lookV s j := by
  unfold swapS
  unfold swapB at h
  split
  · rename_i hh
    rw [hh, Bool.true_and] at h
    rw [if_neg (by simpa using h)]
    rfl
  · rfl
theorem look_swap_yes (o x : Int) (h : swapB s i o = true) : lookV (swapS s t i o x) j = if j = i then x else lookV s j := by
  unfold swapB at h
  simp only [Bool.and_eq_true, beq_iff_eq] at h
  unfold swapS
  rw [if_pos h.1, if_pos h.2]
  unfold lookV MemM.say
  simp only [List.length_set]
  by_cases hj : has s.ws.length j = true
  · rw [if_pos hj, if_pos hj]
    exact at_set h.1 (by have := of_decide_eq_true hj; omega)
  · rw [if_neg hj, if_neg hj]
    by_cases e : j = i
    · subst e; exact absurd h.1 hj
    · rw [if_neg e]
theorem look_swap_ne (o x : Int) (h : j ≠ i) : lookV (swapS s t i o x) j = lookV s j := by
  cases hb : swapB s i o with
  | true => rw [look_swap_yes o x hb, if_neg h]
  | false => exact look_swap_no o x hb
theorem swap_old {o : Int} (h : swapB s i o = true) : lookV s i = o := by
  unfold swapB at h
  simp only [Bool.and_eq_true, beq_iff_eq] at h
  unfold lookV
  rw [if_pos h.1]; exact h.2
theorem look_more (x : Int) (h : j < s.ws.length) : lookV (moreS s x) j = lookV s j := by
  unfold lookV moreS has
  simp only [List.length_append, List.length_cons, List.length_nil]
  by_cases h0 : 0 ≤ j
  · rw [if_pos (by simp; omega), if_pos (by simp; omega)]
    unfold at_
    simp only [List.getD]
    rw [List.getElem?_append_left (by omega)]
  · rw [if_neg (by simp; omega), if_neg (by simp; omega)]
theorem hold_lock (h : lockB s t i = true) : holdV (lockS s t i) j = if j = i then t else holdV s j := by
  have h' := h
  unfold lockB at h'
  simp only [Bool.and_eq_true, beq_iff_eq, decide_eq_true_eq] at h'
  unfold lockS
  rw [if_pos h]
  unfold holdV MemM.say
  simp only [List.length_set]
  by_cases hj : has s.hs.length j = true
  · rw [if_pos hj, if_pos hj]
    exact at_set h'.1.2 (by have := of_decide_eq_true hj; omega)
  · rw [if_neg hj, if_neg hj]
    by_cases e : j = i
    · subst e; exact absurd h'.1.2 hj
    · rw [if_neg e]
theorem lock_free (h : lockB s t i = true) : holdV s i = -1 := by
  unfold lockB at h
  simp only [Bool.and_eq_true, beq_iff_eq, decide_eq_true_eq] at h
  unfold holdV
  rw [if_pos h.1.2]; exact h.2
theorem hold_has (h : holdV s i ≠ -1) : has s.hs.length i = true := by
  unfold holdV at h
  split at h
  · assumption
  · exact absurd rfl h
theorem hold_unlock (h : holdV s i = t) (ht : 0 ≤ t) : holdV (unlockS s t i) j = if j = i then -1 else holdV s j := by
  have hh : has s.hs.length i = true := hold_has (by omega)
  have ha : at_ s.hs i = t := by unfold holdV at h; rw [if_pos hh] at h; exact h
  have h0 : unlockV s t i = 0 := by unfold unlockV; rw [if_neg (by simp [hh]), if_neg (by rw [ha]; omega)]
  unfold unlockS
  rw [if_pos h0]
  unfold holdV MemM.say
  simp only [List.length_set]
  by_cases hj : has s.hs.length j = true
  · rw [if_pos hj, if_pos hj]
    exact at_set hh (by have := of_decide_eq_true hj; omega)
  · rw [if_neg hj, if_neg hj]
    by_cases e : j = i
    · subst e; exact absurd hh hj
    · rw [if_neg e]
theorem hs_lock : (lockS s t i).hs.length = s.hs.length := by unfold lockS; split; · simp [MemM.say]
                                                              · rfl
theorem hs_unlock : (unlockS s t i).hs.length = s.hs.length := by unfold unlockS; split; · simp [MemM.say]
                                                                  · rfl
theorem hs_load : (loadS s t i).hs.length = s.hs.length := by unfold loadS; split <;> rfl
theorem hs_swap (o x : Int) : (swapS s t i o x).hs.length = s.hs.length := by unfold swapS; split; split <;> rfl; rfl
theorem hs_touch (k : Int) : (touchS s t k i).hs.length = s.hs.length := by unfold touchS; split <;> rfl
theorem ws_unlock : (unlockS s t i).ws.length = s.ws.length := (len_unlock s t i).2
theorem ws_load : (loadS s t i).ws.length = s.ws.length := (len_load s t i).2
theorem ws_swap (o x : Int) : (swapS s t i o x).ws.length = s.ws.length := (len_swap s t i o x).2
theorem ws_touch (k : Int) : (touchS s t k i).ws.length = s.ws.length := (len_touch s t k i).2
theorem ws_lock : (lockS s t i).ws.length = s.ws.length := (len_lock s t i).2
end

/-! What holds of an op. -/
/-- The mutex that it holds between its acts, or -1. -/
def hl (C : Cf) (r : Rn) : Int := match r.at_ with
  | .release | .again | .over | .kill | .less | .leave | .absent | .enter | .unlock | .visit | .inspect | .finish => (r.st : Int)
  | .prepare | .publish | .disclaim => (C.n : Int)
  | _ => -1
/-- Has it taken out a flow that the gate still counts? -/
def pend (r : Rn) : Int := match r.at_ with
  | .less | .leave => 1
  | _ => 0
def Hd (S : Sh) (r : Rn) : Prop := holdV S.ms (r.st : Int) = r.t
def Wd (S : Sh) (r : Rn) : Prop := 6 ≤ r.x ∧ r.x < S.ms.ws.length
def So (C : Cf) (r : Rn) : Prop := sOf C.n r.k = r.st
def He (S : Sh) (r : Rn) : Prop := ∃ f, find r.k S.fs = some f ∧ f.x = r.x
def Go (S : Sh) (r : Rn) : Prop := find r.k S.fs = none
def Ks (C : Cf) (S : Sh) (r : Rn) : Prop := r.ks.Nodup ∧ ∀ k ∈ r.ks, k.Ok ∧ sOf C.n k = r.st ∧ find k S.fs ≠ none
def Sw (C : Cf) (r : Rn) : Prop := sweeps r.q = true ∧ r.st < C.n
/-- What holds where it is. -/
def Inf (C : Cf) (S : Sh) (r : Rn) : Prop := match r.at_ with
  | .find | .look => r.mu = (r.st : Int) ∧ r.q = 1 ∧ So C r
  | .release => r.mu = -1 ∧ r.q = 1 ∧ So C r ∧ Hd S r ∧ Wd S r
  | .load | .judge => r.mu = -1 ∧ r.q = 1 ∧ So C r ∧ Wd S r
  | .advance | .sure => r.mu = -1 ∧ r.q = 1 ∧ So C r ∧ Wd S r ∧ r.mr < S.pts.length
  | .again | .over => r.mu = -1 ∧ r.q = 1 ∧ So C r ∧ Hd S r ∧ Wd S r ∧ He S r
  | .kill => r.mu = -1 ∧ So C r ∧ Hd S r ∧ Wd S r ∧ He S r ∧ (r.q = 1 ∨ Sw C r ∧ Ks C S r ∧ r.k ∉ r.ks)
  | .less | .leave => r.mu = -1 ∧ Hd S r ∧ (r.q = 1 ∧ So C r ∧ Go S r ∨ Sw C r ∧ Ks C S r)
  | .absent => r.mu = -1 ∧ r.q = 1 ∧ So C r ∧ Hd S r ∧ Go S r
  | .enter => r.mu = -1 ∧ r.q = 1 ∧ So C r ∧ Hd S r ∧ Go S r ∧ enterB C.N r.wg = true
  | .unlock => r.mu = -1 ∧ Hd S r ∧ 1 ≤ r.v ∧ r.v ≤ 5
  | .count | .add => r.mu = -1 ∧ 1 ≤ r.v ∧ r.v ≤ 5
  | .claim => r.mu = (C.n : Int)
  | .prepare | .disclaim => r.mu = -1 ∧ holdV S.ms (C.n : Int) = r.t
  | .publish => r.mu = -1 ∧ holdV S.ms (C.n : Int) = r.t ∧ vG r.wg ≠ 4095
  | .stat => r.mu = -1 ∧ 1 ≤ r.z ∧ r.z ≤ 5
  | .take => r.mu = (r.st : Int) ∧ Sw C r
  | .visit => r.mu = -1 ∧ So C r ∧ Hd S r ∧ Sw C r ∧ Ks C S r ∧ find r.k S.fs ≠ none ∧ r.k ∉ r.ks
  | .inspect => r.mu = -1 ∧ So C r ∧ Hd S r ∧ Wd S r ∧ He S r ∧ Sw C r ∧ Ks C S r ∧ r.k ∉ r.ks
  | .finish => r.mu = -1 ∧ Hd S r ∧ Sw C r
  | _ => r.mu = -1
/-- What holds of an op, wherever it is. -/
structure Bas (C : Cf) (r : Rn) : Prop where
  wf : W64 r.wf
  wg : W64 r.wg
  wc : W64 r.wc
  k : r.k.Ok
  p : r.p.Ok
  st : r.st ≤ C.n
  z : -9223372036854775808 ≤ r.z ∧ r.z ≤ 9223372036854775807
  tt : 0 ≤ r.t ∧ r.t ≤ 9223372036854775807
/-- How a firewall is made. -/
structure CfOk (C : Cf) : Prop where
  n1 : 1 ≤ C.n
  cn : C.n ≤ 4096
  N : 1 ≤ C.N ∧ C.N ≤ 4095
  cT : ∀ i, -9223372036854775808 ≤ C.T i ∧ C.T i ≤ 9223372036854775807
/-- What holds of what is shared. -/
structure Gi (C : Cf) (S : Sh) : Prop where
  ok : MemM.Ok S.ms
  oks : Oks S.fs
  hs : S.ms.hs.length = C.n + 1
  ws : 6 ≤ S.ms.ws.length
  wds : ∀ f ∈ S.fs, 6 ≤ f.x ∧ f.x < S.ms.ws.length
  le : kG (lookV S.ms 0) ≤ C.N
structure Ri (C : Cf) (S : Sh) (r : Rn) : Prop where
  bas : Bas C r
  inf : Inf C S r
section
variable {C : Cf} {S S' : Sh} {r r' : Rn}
theorem word_of (h : MemM.Ok S.ms) (i : Int) : W64 (lookV S.ms i) := by
  unfold MemM.lookV
  split
  · rename_i hb
    obtain ⟨j, rfl, hj⟩ := MemM.has_yes hb
    exact h.wat hj
  · exact ⟨by omega, by omega⟩
theorem Ri.fit (h : Ri C S r) (hc : CfOk C) : Fit C S r :=
  { wf := h.bas.wf, wg := h.bas.wg, wc := h.bas.wc, k := h.bas.k, p := h.bas.p, st := h.bas.st, cn := hc.cn, cT := hc.cT, z := h.bas.z, tt := h.bas.tt
    mr := fun e => by
      have hi := h.inf
      rcases e with e | e <;> (unfold Inf at hi; rw [e] at hi; exact hi.2.2.2.2)
    q := fun e => by
      have hi := h.inf
      rcases e with e | e | e <;> unfold Inf at hi <;> rw [e] at hi
      · exact hi.2.2.2.2.2.imp id fun h => h.1.1
      · exact hi.2.2.imp (fun h => h.1) fun h => h.1.1
      · exact hi.2.2.imp (fun h => h.1) fun h => h.1.1 }
/-- What it holds. -/
theorem Ri.held (h : Ri C S r) (h0 : hl C r ≠ -1) : holdV S.ms (hl C r) = r.t := by
  have hi := h.inf
  unfold Inf at hi
  unfold hl at h0 ⊢
  cases e : r.at_ <;> rw [e] at hi h0 <;> first | exact absurd rfl h0 | exact hi.2.1 | exact hi.2.2.1 | exact hi.2.2.2.1 | exact hi.2
/-- What another's step leaves. -/
structure Ext (C : Cf) (t : Int) (S S' : Sh) : Prop where
  ws : S.ms.ws.length ≤ S'.ms.ws.length
  pt : S.pts.length ≤ S'.pts.length
  fx : ∀ k, find k S'.fs = find k S.fs ∨ holdV S.ms ((sOf C.n k : Nat) : Int) = t
  ho : ∀ i, holdV S'.ms i = holdV S.ms i ∨ holdV S.ms i = -1 ∨ holdV S.ms i = t
theorem Ri.ext {t : Int} (h : Ri C S r) (hE : Ext C t S S') (ht : r.t ≠ t) : Ri C S' r := by
  have hn : r.t ≠ -1 := by have := h.bas.tt; omega
  have hH : ∀ i, holdV S.ms i = r.t → holdV S'.ms i = r.t := fun i e => by
    rcases hE.ho i with h | h | h <;> omega
  have hd : Hd S r → Hd S' r := hH _
  have wd : Wd S r → Wd S' r := fun w => ⟨w.1, by have := hE.ws; have := w.2; omega⟩
  have fk : Hd S r → ∀ k, sOf C.n k = r.st → find k S'.fs = find k S.fs := fun hh k e => by
    rcases hE.fx k with h | h
    · exact h
    · rw [e] at h; unfold Hd at hh; omega
  have he : Hd S r → So C r → He S r → He S' r := fun hh so ⟨f, h1, h2⟩ => ⟨f, by rw [fk hh _ so]; exact h1, h2⟩
  have go : Hd S r → So C r → Go S r → Go S' r := fun hh so g => by unfold Go; rw [fk hh _ so]; exact g
  have ks : Hd S r → Ks C S r → Ks C S' r := fun hh k => ⟨k.1, fun x hx => ⟨(k.2 x hx).1, (k.2 x hx).2.1, by rw [fk hh x (k.2 x hx).2.1]; exact (k.2 x hx).2.2⟩⟩
  have hp := hE.pt
  refine ⟨h.bas, ?_⟩
  have hi := h.inf
  unfold Inf at hi ⊢
  cases e : r.at_ <;> rw [e] at hi <;> dsimp only at hi ⊢
  case find => exact hi
  case look => exact hi
  case release => exact ⟨hi.1, hi.2.1, hi.2.2.1, hd hi.2.2.2.1, wd hi.2.2.2.2⟩
  case load => exact ⟨hi.1, hi.2.1, hi.2.2.1, wd hi.2.2.2⟩
  case judge => exact ⟨hi.1, hi.2.1, hi.2.2.1, wd hi.2.2.2⟩
  case advance => exact ⟨hi.1, hi.2.1, hi.2.2.1, wd hi.2.2.2.1, by have := hi.2.2.2.2; omega⟩
  case sure => exact ⟨hi.1, hi.2.1, hi.2.2.1, wd hi.2.2.2.1, by have := hi.2.2.2.2; omega⟩
  case again => exact ⟨hi.1, hi.2.1, hi.2.2.1, hd hi.2.2.2.1, wd hi.2.2.2.2.1, he hi.2.2.2.1 hi.2.2.1 hi.2.2.2.2.2⟩
  case over => exact ⟨hi.1, hi.2.1, hi.2.2.1, hd hi.2.2.2.1, wd hi.2.2.2.2.1, he hi.2.2.2.1 hi.2.2.1 hi.2.2.2.2.2⟩
  case kill => exact ⟨hi.1, hi.2.1, hd hi.2.2.1, wd hi.2.2.2.1, he hi.2.2.1 hi.2.1 hi.2.2.2.2.1, hi.2.2.2.2.2.imp id fun x => ⟨x.1, ks hi.2.2.1 x.2.1, x.2.2⟩⟩
  case less => exact ⟨hi.1, hd hi.2.1, hi.2.2.imp (fun x => ⟨x.1, x.2.1, go hi.2.1 x.2.1 x.2.2⟩) fun x => ⟨x.1, ks hi.2.1 x.2⟩⟩
  case leave => exact ⟨hi.1, hd hi.2.1, hi.2.2.imp (fun x => ⟨x.1, x.2.1, go hi.2.1 x.2.1 x.2.2⟩) fun x => ⟨x.1, ks hi.2.1 x.2⟩⟩
  case absent => exact ⟨hi.1, hi.2.1, hi.2.2.1, hd hi.2.2.2.1, go hi.2.2.2.1 hi.2.2.1 hi.2.2.2.2⟩
  case enter => exact ⟨hi.1, hi.2.1, hi.2.2.1, hd hi.2.2.2.1, go hi.2.2.2.1 hi.2.2.1 hi.2.2.2.2.1, hi.2.2.2.2.2⟩
  case unlock => exact ⟨hi.1, hd hi.2.1, hi.2.2⟩
  case prepare => exact ⟨hi.1, hH _ hi.2⟩
  case publish => exact ⟨hi.1, hH _ hi.2.1, hi.2.2⟩
  case disclaim => exact ⟨hi.1, hH _ hi.2⟩
  case visit => exact ⟨hi.1, hi.2.1, hd hi.2.2.1, hi.2.2.2.1, ks hi.2.2.1 hi.2.2.2.2.1, by rw [fk hi.2.2.1 _ hi.2.1]; exact hi.2.2.2.2.2.1, hi.2.2.2.2.2.2⟩
  case inspect => exact ⟨hi.1, hi.2.1, hd hi.2.2.1, wd hi.2.2.2.1, he hi.2.2.1 hi.2.1 hi.2.2.2.2.1, hi.2.2.2.2.2.1, ks hi.2.2.1 hi.2.2.2.2.2.2.1, hi.2.2.2.2.2.2.2⟩
  case finish => exact ⟨hi.1, hd hi.2.1, hi.2.2⟩
  all_goals exact hi
end
end Pg
end Go.Proofs.YtcockldefmmhbaaGreatDoor
/- Layer 21, plain mathematics: what each act keeps (Asp). -/
set_option linter.unusedVariables false
set_option linter.unusedSimpArgs false
namespace Go.Proofs.YtcockldefmmhbaaGreatDoor
namespace Pg
open MemM (Ms lookV loadS swapB swapS holdV lockB lockS unlockS unlockV touchS moreS has at_)
open RulM (R)
open MatM (K fst accB)
open AutM (Ke)
open Tb (sOf heldB upd)
open TabM (find Oks)

/-- The mutex that it holds while it acts. -/
def hx (C : Cf) (r : Rn) : Int := match r.at_ with
  | .find | .look | .take | .release | .again | .over | .kill | .less | .leave | .absent | .enter | .unlock | .visit | .inspect | .finish => (r.st : Int)
  | .claim | .prepare | .publish | .disclaim => (C.n : Int)
  | _ => -1
/-- What holds of an op as it begins its act. -/
def Pre (C : Cf) (S : Sh) (r : Rn) : Prop := match r.at_ with
  | .find | .look => r.mu = -1 ∧ r.q = 1 ∧ So C r ∧ Hd S r
  | .take => r.mu = -1 ∧ Hd S r ∧ Sw C r
  | .claim => r.mu = -1 ∧ holdV S.ms (C.n : Int) = r.t
  | _ => Inf C S r
/-- What an act makes of it all. -/
structure Asp (C : Cf) (S : Sh) (r : Rn) (S' : Sh) (r' : Rn) : Prop where
  gi : Gi C S'
  ri : Ri C S' r'
  t : r'.t = r.t
  ws : S.ms.ws.length ≤ S'.ms.ws.length
  pt : S.pts.length ≤ S'.pts.length
  fx : ∀ k, find k S'.fs = find k S.fs ∨ holdV S.ms ((sOf C.n k : Nat) : Int) = r.t
  fr : ∀ i, holdV S'.ms i = holdV S.ms i ∨ holdV S.ms i = r.t ∧ holdV S'.ms i = -1
  hk : hx C r = -1 ∨ hl C r' = hx C r ∨ holdV S'.ms (hx C r) = -1
  cnt : kG (lookV S'.ms 0) - S'.fs.length - pend r' = kG (lookV S.ms 0) - S.fs.length - pend r
/-- Nothing that counts has turned. -/
structure E0 (S S' : Sh) : Prop where
  ok : MemM.Ok S.ms → MemM.Ok S'.ms
  hs : S'.ms.hs.length = S.ms.hs.length
  ws : S'.ms.ws.length = S.ms.ws.length
  fs : S'.fs = S.fs
  pt : S.pts.length ≤ S'.pts.length
  ho : ∀ i, holdV S'.ms i = holdV S.ms i
  g0 : lookV S'.ms 0 = lookV S.ms 0
section
variable {C : Cf} {S S' S2 : Sh} {r r' : Rn}
theorem E0.refl (S : Sh) : E0 S S := ⟨id, rfl, rfl, rfl, Nat.le_refl _, fun _ => rfl, rfl⟩
theorem E0.trans (h : E0 S S') (k : E0 S' S2) : E0 S S2 := ⟨fun o => k.ok (h.ok o), k.hs.trans h.hs, k.ws.trans h.ws, k.fs.trans h.fs, Nat.le_trans h.pt k.pt, fun i => (k.ho i).trans (h.ho i), k.g0.trans h.g0⟩
theorem E0.ld (S : Sh) (r : Rn) (i : Int) : E0 S (ldS S r i) := ⟨fun o => o.load _ _, hs_load, ws_load, rfl, Nat.le_refl _, fun _ => hold_load, look_load⟩
theorem E0.touch (S : Sh) (r : Rn) (k i : Int) : E0 S { S with ms := touchS S.ms r.t k i } := ⟨fun o => o.touch _ _ _, hs_touch k, ws_touch k, rfl, Nat.le_refl _, fun _ => hold_touch k, look_touch k⟩
theorem E0.to (S : Sh) (r : Rn) (k : Int) : E0 S (toS C S r k) := by
  unfold toS; split
  · exact E0.touch S r k _
  · exact E0.refl S
theorem E0.say (S : Sh) (r : Rn) (kd : Int) (k : Ke) (v n : Int) : E0 S (say S r kd k v n) := ⟨id, rfl, rfl, rfl, by simp [Pg.say], fun _ => rfl, rfl⟩
theorem E0.mark (S : Sh) : E0 S (markS S) := ⟨id, rfl, rfl, rfl, by simp [markS], fun _ => rfl, rfl⟩
theorem E0.fill (S : Sh) (r : Rn) (v : Int) : E0 S (fillS S r v) := ⟨id, rfl, rfl, rfl, by simp [fillS], fun _ => rfl, rfl⟩
theorem E0.sw (S : Sh) (r : Rn) (i o x : Int) (hx : W64 x) (h : i ≠ 0 ∨ swapB S.ms i o = false) : E0 S (swS S r i o x) :=
  ⟨fun k => k.swap _ _ _ _ hx, hs_swap o x, ws_swap o x, rfl, Nat.le_refl _, fun _ => hold_swap o x, h.elim (fun e => look_swap_ne o x fun k => e k.symm) fun e => look_swap_no o x e⟩
theorem E0.gi (E : E0 S S') (G : Gi C S) : Gi C S' :=
  ⟨E.ok G.ok, by rw [E.fs]; exact G.oks, E.hs.trans G.hs, by rw [E.ws]; exact G.ws, by rw [E.fs, E.ws]; exact G.wds, by rw [E.g0]; exact G.le⟩
theorem Asp.of (G : Gi C S) (E : E0 S S') (hr : Ri C S' r') (ht : r'.t = r.t) (hh : hx C r = -1 ∨ hl C r' = hx C r) (hp : pend r' = pend r) : Asp C S r S' r' :=
  ⟨E.gi G, hr, ht, by rw [E.ws]; exact Nat.le_refl _, E.pt, fun k => .inl (by rw [E.fs]), fun i => .inl (E.ho i), hh.imp id .inl, by rw [E.g0, E.fs, hp]⟩
theorem Hd.of (h : Hd S r) (E : E0 S S') (hs : r'.st = r.st) (ht : r'.t = r.t) : Hd S' r' := by unfold Hd; rw [E.ho, hs, ht]; exact h
theorem Wd.of (h : Wd S r) (E : E0 S S') (hx : r'.x = r.x) : Wd S' r' := by unfold Wd; rw [E.ws, hx]; exact h
theorem He.of (h : He S r) (E : E0 S S') (hk : r'.k = r.k) (hx : r'.x = r.x) : He S' r' := by unfold He; rw [E.fs, hk, hx]; exact h
theorem Go.of (h : Go S r) (E : E0 S S') (hk : r'.k = r.k) : Go S' r' := by unfold Go; rw [E.fs, hk]; exact h
theorem Ks.of (h : Ks C S r) (E : E0 S S') (hk : r'.ks = r.ks) (hs : r'.st = r.st) : Ks C S' r' := by unfold Ks; rw [E.fs, hk, hs]; exact h
theorem has_of (hb : Bas C r) (h : Hd S r) (so : So C r) : hasB C S r = true := by
  unfold hasB heldB
  rw [so]
  unfold Hd at h
  rw [h]
  simp [hb.tt.1]
theorem fnd_of (hb : Bas C r) (h : Hd S r) (so : So C r) : fndO C S r = find r.k S.fs := by unfold fndO; rw [has_of hb h so, if_pos rfl]
theorem fndR_some {f : TabM.Fl} (hb : Bas C r) (h : Hd S r) (so : So C r) (hf : find r.k S.fs = some f) : fndR C S r = { r with x := f.x, tu := f.dn } := by unfold fndR; rw [fnd_of hb h so, hf]
theorem fndR_none (hb : Bas C r) (h : Hd S r) (so : So C r) (hf : find r.k S.fs = none) : fndR C S r = { r with x := 0, tu := false } := by unfold fndR; rw [fnd_of hb h so, hf]
theorem wd_of (G : Gi C S) {f : TabM.Fl} (hf : find r.k S.fs = some f) : 6 ≤ f.x ∧ f.x < S.ms.ws.length := G.wds f (TabM.find_some hf).1

theorem judgeR_is (r : Rn) : (judgeR r).t = r.t ∧ pend (judgeR r) = 0 := by
  unfold judgeR
  split
  · exact ⟨rfl, rfl⟩
  · split <;> exact ⟨rfl, rfl⟩

/-! The acts, one by one. -/
variable (G : Gi C S) (hb : Bas C r)
include G hb
theorem a_find (ha : r.at_ = .find) (h : r.mu = -1 ∧ r.q = 1 ∧ So C r ∧ Hd S r) : Asp C S r (findA C S r).1 (findA C S r).2 := by
  have E := E0.to (C := C) S r 5
  unfold findA
  cases hf : find r.k S.fs with
  | some f =>
    rw [fndR_some hb h.2.2.2 h.2.2.1 hf, fnd_of hb h.2.2.2 h.2.2.1, hf]
    exact Asp.of G E ⟨⟨hb.wf, hb.wg, hb.wc, hb.k, hb.p, hb.st, hb.z, hb.tt⟩, h.1, h.2.1, h.2.2.1, h.2.2.2.of E rfl rfl, by
      have := wd_of G hf
      show 6 ≤ f.x ∧ f.x < ((toS C S r 5).ms.ws.length : Int)
      rw [E.ws]; exact this⟩ rfl (.inr (by unfold hx; rw [ha]; rfl)) (by unfold pend; rw [ha]; rfl)
  | none =>
    rw [fndR_none hb h.2.2.2 h.2.2.1 hf, fnd_of hb h.2.2.2 h.2.2.1, hf]
    exact Asp.of G E ⟨⟨hb.wf, hb.wg, hb.wc, hb.k, hb.p, hb.st, hb.z, hb.tt⟩, h.1, h.2.1, h.2.2.1, h.2.2.2.of E rfl rfl, by
      show find r.k (toS C S r 5).fs = none
      rw [E.fs]; exact hf⟩ rfl (.inr (by unfold hx; rw [ha]; rfl)) (by unfold pend; rw [ha]; rfl)
theorem a_look (ha : r.at_ = .look) (h : r.mu = -1 ∧ r.q = 1 ∧ So C r ∧ Hd S r) : Asp C S r (lookA C S r).1 (lookA C S r).2 := by
  have E := E0.to (C := C) S r 5
  unfold lookA
  cases hf : find r.k S.fs with
  | some f =>
    rw [fndR_some hb h.2.2.2 h.2.2.1 hf, fnd_of hb h.2.2.2 h.2.2.1, hf]
    exact Asp.of G E ⟨⟨hb.wf, hb.wg, hb.wc, hb.k, hb.p, hb.st, hb.z, hb.tt⟩, h.1, h.2.1, h.2.2.1, h.2.2.2.of E rfl rfl, by
      have := wd_of G hf
      show 6 ≤ f.x ∧ f.x < ((toS C S r 5).ms.ws.length : Int)
      rw [E.ws]; exact this, f, by show find r.k (toS C S r 5).fs = _; rw [E.fs]; exact hf, rfl⟩ rfl (.inr (by unfold hx; rw [ha]; rfl)) (by unfold pend; rw [ha]; rfl)
  | none =>
    rw [fndR_none hb h.2.2.2 h.2.2.1 hf, fnd_of hb h.2.2.2 h.2.2.1, hf]
    exact Asp.of G E ⟨⟨hb.wf, hb.wg, hb.wc, hb.k, hb.p, hb.st, hb.z, hb.tt⟩, h.1, h.2.1, h.2.2.1, h.2.2.2.of E rfl rfl, by
      show find r.k (toS C S r 5).fs = none
      rw [E.fs]; exact hf⟩ rfl (.inr (by unfold hx; rw [ha]; rfl)) (by unfold pend; rw [ha]; rfl)
/-- A mutex is freed. -/
theorem Asp.free {m : Int} (hm : holdV S.ms m = r.t) (hmx : hx C r = m) (hr : Ri C (freeS S r m) r') (ht : r'.t = r.t) (hp : pend r' = pend r) : Asp C S r (freeS S r m) r' :=
  have e : ∀ i, holdV (freeS S r m).ms i = if i = m then -1 else holdV S.ms i := fun i => hold_unlock hm hb.tt.1
  ⟨⟨G.ok.unlock _ _, G.oks, hs_unlock.trans G.hs, by show 6 ≤ (unlockS S.ms r.t m).ws.length; rw [ws_unlock]; exact G.ws, by
      show ∀ f ∈ S.fs, 6 ≤ f.x ∧ f.x < ((unlockS S.ms r.t m).ws.length : Int)
      rw [ws_unlock]; exact G.wds, by show kG (lookV (unlockS S.ms r.t m) 0) ≤ _; rw [look_unlock]; exact G.le⟩,
    hr, ht, by show _ ≤ (unlockS S.ms r.t m).ws.length; rw [ws_unlock]; exact Nat.le_refl _, Nat.le_refl _, fun k => .inl rfl, fun i => by
      rw [e i]
      by_cases h : i = m
      · subst h; rw [if_pos rfl]; exact .inr ⟨hm, rfl⟩
      · rw [if_neg h]; exact .inl rfl, .inr (.inr (by rw [hmx, e m, if_pos rfl])), by
      show kG (lookV (unlockS S.ms r.t m) 0) - _ - _ = _
      rw [look_unlock, hp]; rfl⟩
theorem a_release (ha : r.at_ = .release) (h : r.mu = -1 ∧ r.q = 1 ∧ So C r ∧ Hd S r ∧ Wd S r) : Asp C S r (releaseA S r).1 (releaseA S r).2 :=
  Asp.free G hb h.2.2.2.1 (by unfold hx; rw [ha]) ⟨⟨hb.wf, hb.wg, hb.wc, hb.k, hb.p, hb.st, hb.z, hb.tt⟩, h.1, h.2.1, h.2.2.1, by
    show 6 ≤ r.x ∧ r.x < ((unlockS S.ms r.t r.st).ws.length : Int)
    rw [ws_unlock]; exact h.2.2.2.2⟩ rfl (by unfold pend; rw [ha]; rfl)
theorem a_unlock (ha : r.at_ = .unlock) (h : r.mu = -1 ∧ Hd S r ∧ 1 ≤ r.v ∧ r.v ≤ 5) : Asp C S r (unlockA S r).1 (unlockA S r).2 :=
  Asp.free G hb h.2.1 (by unfold hx; rw [ha]) ⟨⟨hb.wf, hb.wg, hb.wc, hb.k, hb.p, hb.st, hb.z, hb.tt⟩, h.1, h.2.2.1, h.2.2.2⟩ rfl (by unfold pend; rw [ha]; rfl)
theorem a_load (ha : r.at_ = .load) (h : r.mu = -1 ∧ r.q = 1 ∧ So C r ∧ Wd S r) : Asp C S r (loadA S r).1 (loadA S r).2 := by
  have E := E0.ld S r r.x
  unfold loadA
  refine Asp.of G E ?_ (by dsimp only; split <;> rfl) (.inl (by unfold hx; rw [ha])) (by dsimp only; rw [show pend r = 0 by unfold pend; rw [ha]]; split <;> rfl)
  dsimp only
  split
  · exact ⟨⟨word_of G.ok _, hb.wg, hb.wc, hb.k, hb.p, hb.st, hb.z, hb.tt⟩, rfl, h.2.1, h.2.2.1⟩
  · exact ⟨⟨word_of G.ok _, hb.wg, hb.wc, hb.k, hb.p, hb.st, hb.z, hb.tt⟩, h.1, h.2.1, h.2.2.1, h.2.2.2.of E rfl⟩
theorem a_judge (ha : r.at_ = .judge) (h : r.mu = -1 ∧ r.q = 1 ∧ So C r ∧ Wd S r) : Asp C S r (judgeA S r).1 (judgeA S r).2 := by
  have E := (E0.ld S r 0).trans (E0.mark _)
  have hl : (markR S (ldG S r)).mr < (markS (ldS S r 0)).pts.length := by simp [markR, markS, ldS]
  unfold judgeA
  refine Asp.of G E ?_ (judgeR_is _).1 (.inl (by unfold hx; rw [ha])) ((judgeR_is _).2.trans (by unfold pend; rw [ha]))
  dsimp only
  unfold judgeR
  split
  · exact ⟨⟨hb.wf, word_of G.ok _, hb.wc, hb.k, hb.p, hb.st, hb.z, hb.tt⟩, rfl, h.2.1, h.2.2.1⟩
  split
  · exact ⟨⟨hb.wf, word_of G.ok _, hb.wc, hb.k, hb.p, hb.st, hb.z, hb.tt⟩, h.1, h.2.1, h.2.2.1, h.2.2.2.of E rfl, hl⟩
  · exact ⟨⟨hb.wf, word_of G.ok _, hb.wc, hb.k, hb.p, hb.st, hb.z, hb.tt⟩, h.1, h.2.1, h.2.2.1, h.2.2.2.of E rfl, hl⟩
theorem a_change (hh : hx C r = -1) (hp : pend r = 0) (h : r.mu = -1 ∧ r.q = 1 ∧ So C r ∧ Wd S r) (s u v : Int) (hv : 1 ≤ v ∧ v ≤ 5) : Asp C S r (changeA S r s u v).1 (changeA S r s u v).2 := by
  have E := E0.sw S r r.x r.wf (nextW r.wf s u) (w_next hb.wf s u) (.inl (by have := h.2.2.2.1; omega))
  unfold changeA
  split
  · exact Asp.of G (E.trans (E0.fill _ _ _)) ⟨⟨hb.wf, hb.wg, hb.wc, hb.k, hb.p, hb.st, hb.z, hb.tt⟩, h.1, hv⟩ rfl (.inl hh) (by rw [hp]; rfl)
  · exact Asp.of G E ⟨⟨hb.wf, hb.wg, hb.wc, hb.k, hb.p, hb.st, hb.z, hb.tt⟩, h.1, h.2.1, h.2.2.1, h.2.2.2.of E rfl⟩ rfl (.inl hh) (by rw [hp]; rfl)
theorem a_advance (ha : r.at_ = .advance) (h : r.mu = -1 ∧ r.q = 1 ∧ So C r ∧ Wd S r ∧ r.mr < S.pts.length) : Asp C S r (advanceA C S r).1 (advanceA C S r).2 :=
  a_change G hb (by unfold hx; rw [ha]) (by unfold pend; rw [ha]) ⟨h.1, h.2.1, h.2.2.1, h.2.2.2.1⟩ _ _ 1 (by omega)
theorem a_sure (ha : r.at_ = .sure) (h : r.mu = -1 ∧ r.q = 1 ∧ So C r ∧ Wd S r ∧ r.mr < S.pts.length) : Asp C S r (sureA S r).1 (sureA S r).2 :=
  a_change G hb (by unfold hx; rw [ha]) (by unfold pend; rw [ha]) ⟨h.1, h.2.1, h.2.2.1, h.2.2.2.1⟩ _ _ 4 (by omega)
theorem a_again (ha : r.at_ = .again) (h : r.mu = -1 ∧ r.q = 1 ∧ So C r ∧ Hd S r ∧ Wd S r ∧ He S r) : Asp C S r (againA S r).1 (againA S r).2 :=
  have E := E0.ld S r r.x
  Asp.of G E ⟨⟨word_of G.ok _, hb.wg, hb.wc, hb.k, hb.p, hb.st, hb.z, hb.tt⟩, h.1, h.2.1, h.2.2.1, h.2.2.2.1.of E rfl rfl, h.2.2.2.2.1.of E rfl, h.2.2.2.2.2.of E rfl rfl⟩ rfl (.inr (by unfold hx; rw [ha]; rfl)) (by unfold pend; rw [ha]; rfl)
theorem a_over (ha : r.at_ = .over) (h : r.mu = -1 ∧ r.q = 1 ∧ So C r ∧ Hd S r ∧ Wd S r ∧ He S r) : Asp C S r (overA S r).1 (overA S r).2 := by
  have E := E0.ld S r 0
  unfold overA
  split
  · exact Asp.of G E ⟨⟨hb.wf, word_of G.ok _, hb.wc, hb.k, hb.p, hb.st, hb.z, hb.tt⟩, h.1, h.2.2.1, h.2.2.2.1.of E rfl rfl, h.2.2.2.2.1.of E rfl, h.2.2.2.2.2.of E rfl rfl, .inl h.2.1⟩ rfl (.inr (by unfold hx; rw [ha]; rfl)) (by unfold pend; rw [ha]; rfl)
  · exact Asp.of G E ⟨⟨hb.wf, word_of G.ok _, hb.wc, hb.k, hb.p, hb.st, hb.z, hb.tt⟩, h.1, h.2.1, h.2.2.1, h.2.2.2.1.of E rfl rfl, h.2.2.2.2.1.of E rfl⟩ rfl (.inr (by unfold hx; rw [ha]; rfl)) (by unfold pend; rw [ha]; rfl)
theorem a_kill (ha : r.at_ = .kill) (h : r.mu = -1 ∧ So C r ∧ Hd S r ∧ Wd S r ∧ He S r ∧ (r.q = 1 ∨ Sw C r ∧ Ks C S r ∧ r.k ∉ r.ks)) : Asp C S r (killA C S r).1 (killA C S r).2 := by
  have E := E0.sw S r r.x r.wf deadW w_dead (.inl (by have := h.2.2.2.1.1; omega))
  obtain ⟨h1, h2, h3, h4, ⟨f, hf, hfx⟩, h5⟩ := h
  unfold killA
  split
  · have G1 := E.gi G
    have hh1 := h3.of E (r' := r) rfl rfl
    have E2 := E0.touch (swS S r r.x r.wf deadW) r 6 ((sOf C.n r.k : Nat) : Int)
    have hrem : remS C (swS S r r.x r.wf deadW) r = { { (swS S r r.x r.wf deadW) with ms := touchS (swS S r r.x r.wf deadW).ms r.t 6 ((sOf C.n r.k : Nat) : Int) } with fs := TabM.drop r.k S.fs } := by
      unfold remS
      rw [has_of hb hh1 h2, if_pos rfl]
      rfl
    rw [hrem]
    have G2 := E2.gi G1
    have E3 := E.trans E2
    have hlen := G.oks.len_drop hf
    refine ⟨⟨G2.ok, G.oks.drop r.k, G2.hs, G2.ws, fun g hg => G2.wds g ((TabM.mem_drop.1 hg).1), G2.le⟩, ⟨⟨hb.wf, hb.wg, hb.wc, hb.k, hb.p, hb.st, hb.z, hb.tt⟩, h1, ?_, ?_⟩, rfl, ?_, E3.pt, fun k => ?_, fun i => .inl (E3.ho i), .inr (.inl (by unfold hx; rw [ha]; rfl)), ?_⟩
    · exact (E3.ho _).trans h3
    · rcases h5 with h5 | ⟨s1, s2, s3⟩
      · exact .inl ⟨h5, h2, TabM.find_drop r.k S.fs⟩
      · refine .inr ⟨s1, s2.1, fun k hk => ⟨(s2.2 k hk).1, (s2.2 k hk).2.1, ?_⟩⟩
        have hne : k ≠ r.k := fun e => s3 (e ▸ hk)
        show find k (TabM.drop r.k S.fs) ≠ none
        rw [G.oks.find_drop_other hne]
        exact (s2.2 k hk).2.2
    · show S.ms.ws.length ≤ _
      exact Nat.le_of_eq E3.ws.symm
    · by_cases e : k = r.k
      · subst e; exact .inr (by rw [h2]; exact h3)
      · exact .inl (G.oks.find_drop_other e)
    · have e0 := E3.g0
      rw [show pend r = 0 by unfold pend; rw [ha]]
      show kG (lookV (touchS (swS S r r.x r.wf deadW).ms r.t 6 ((sOf C.n r.k : Nat) : Int)) 0) - ((TabM.drop r.k S.fs).length : Int) - 1 = _
      rw [show lookV (touchS (swS S r r.x r.wf deadW).ms r.t 6 ((sOf C.n r.k : Nat) : Int)) 0 = lookV S.ms 0 from e0]
      omega
  · cases hq : sweeps r.q with
    | true =>
      rw [if_pos rfl]
      rcases h5 with h5 | ⟨s1, s2, s3⟩
      · rw [h5] at hq; cases hq
      · exact Asp.of G E ⟨⟨hb.wf, hb.wg, hb.wc, hb.k, hb.p, hb.st, hb.z, hb.tt⟩, h1, h2, h3.of E rfl rfl, s1, s2.of E rfl rfl, by
          show find r.k (swS S r r.x r.wf deadW).fs ≠ none
          rw [E.fs, hf]; simp, s3⟩ rfl (.inr (by unfold hx; rw [ha]; rfl)) (by unfold pend; rw [ha]; rfl)
    | false =>
      rw [if_neg (by simp)]
      rcases h5 with h5 | ⟨s1, s2, s3⟩
      · exact Asp.of G E ⟨⟨hb.wf, hb.wg, hb.wc, hb.k, hb.p, hb.st, hb.z, hb.tt⟩, h1, h5, h2, h3.of E rfl rfl, h4.of E rfl, f, by show find r.k (swS S r r.x r.wf deadW).fs = _; rw [E.fs]; exact hf, hfx⟩ rfl (.inr (by unfold hx; rw [ha]; rfl)) (by unfold pend; rw [ha]; rfl)
      · rw [s1.1] at hq; cases hq
theorem a_less (ha : r.at_ = .less) (h : r.mu = -1 ∧ Hd S r ∧ (r.q = 1 ∧ So C r ∧ Go S r ∨ Sw C r ∧ Ks C S r)) : Asp C S r (lessA S r).1 (lessA S r).2 :=
  have E := E0.ld S r 0
  Asp.of G E ⟨⟨hb.wf, word_of G.ok _, hb.wc, hb.k, hb.p, hb.st, hb.z, hb.tt⟩, h.1, h.2.1.of E rfl rfl, h.2.2.imp (fun x => ⟨x.1, x.2.1, x.2.2.of E rfl⟩) fun x => ⟨x.1, x.2.of E rfl rfl⟩⟩ rfl (.inr (by unfold hx; rw [ha]; rfl)) (by unfold pend; rw [ha]; rfl)
omit G hb in
/-- The gate's word was swapped. -/
theorem gate_sw {o x : Int} (h : swapB S.ms 0 o = true) : lookV S.ms 0 = o ∧ lookV (swS S r 0 o x).ms 0 = x := ⟨swap_old h, by show lookV (swapS S.ms r.t 0 o x) 0 = x; rw [look_swap_yes o x h, if_pos rfl]⟩
omit hb in
theorem Gi.gate {x : Int} (hx : W64 x) (hle : kG x ≤ C.N) {o : Int} (h : swapB S.ms 0 o = true) : Gi C (swS S r 0 o x) :=
  ⟨G.ok.swap _ _ _ _ hx, G.oks, (hs_swap o x).trans G.hs, by show 6 ≤ (swapS S.ms r.t 0 o x).ws.length; rw [ws_swap]; exact G.ws, by
    show ∀ f ∈ S.fs, 6 ≤ f.x ∧ f.x < ((swapS S.ms r.t 0 o x).ws.length : Int)
    rw [ws_swap]; exact G.wds, by rw [(gate_sw (r := r) h).2]; exact hle⟩
omit G hb in
/-- What follows when a sweep goes on. -/
theorem a_proceed (efs : S'.fs = S.fs) (eho : ∀ i, holdV S'.ms i = holdV S.ms i) (hr' : Bas C r') (hks : r'.ks = r.ks) (hst : r'.st = r.st) (ht : r'.t = r.t) (hm : r'.mu = -1) (hh : Hd S r) (s1 : Sw C r') (s2 : Ks C S r) : Ri C S' (proceedR r') ∧ hl C (proceedR r') = (r.st : Int) ∧ pend (proceedR r') = 0 ∧ (proceedR r').t = r.t := by
  have hh' : holdV S'.ms (r'.st : Int) = r'.t := by rw [eho, hst, ht]; exact hh
  unfold proceedR
  have e2 := hks
  cases hc : r'.ks with
  | nil => exact ⟨⟨⟨hr'.wf, hr'.wg, hr'.wc, hr'.k, hr'.p, hr'.st, hr'.z, hr'.tt⟩, hm, hh', s1⟩, by unfold hl; dsimp only [goto]; rw [hst], rfl, ht⟩
  | cons k ks =>
    rw [hc] at e2
    obtain ⟨n1, n2⟩ := s2
    rw [← e2] at n1 n2
    have nk := List.nodup_cons.1 n1
    have hk := n2 k (List.mem_cons_self ..)
    exact ⟨⟨⟨hr'.wf, hr'.wg, hr'.wc, hk.1, hr'.p, hr'.st, hr'.z, hr'.tt⟩, hm, by show sOf C.n k = r'.st; rw [hst]; exact hk.2.1, hh', s1,
      ⟨nk.2, fun x hx => by have := n2 x (List.mem_cons_of_mem _ hx); exact ⟨this.1, by show _ = r'.st; rw [hst]; exact this.2.1, by rw [efs]; exact this.2.2⟩⟩, by
        show find k S'.fs ≠ none
        rw [efs]; exact hk.2.2, nk.1⟩, by unfold hl; dsimp only; rw [hst], rfl, ht⟩
end
end Pg
end Go.Proofs.YtcockldefmmhbaaGreatDoor
