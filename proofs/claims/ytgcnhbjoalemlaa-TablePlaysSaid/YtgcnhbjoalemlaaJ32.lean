/- Several texts of this proof in one file, each in its own namespace. -/
import Derived.Test.YtgcnhbjoalemlaaJ27
import Derived.Test.YtgcnhbjoalemlaaJ28
import Derived.Test.YtgcnhbjoalemlaaJ25
import Derived.Test.YtgcnhbjoalemlaaMemE
import Derived.Test.YtgcnhbjoalemlaaJ5
import Derived.Test.YtgcnhbjoalemlaaJ9
/- Layer 20: a table's flows, stripe by stripe; the table in its blocks, with its memory. -/
set_option linter.unusedVariables false
set_option linter.unusedSimpArgs false
set_option maxRecDepth 100000
namespace Go.Proofs.Ytgcnhbjoalemlaa
open Go.ChangeShapes Go.WideShapes Go.ChangeAt Go.RowKit Go.Mtl Go.Lib
namespace Tb
open TabM
open KeyM (isPow hashN strN)
open MemM (Ms holdV touchS)
open Me (ptr)
/-- Four results. -/
theorem results_four {fn : Func} {t u v x : Tmp} (h : fn.results = #[.tmp t, .tmp u, .tmp v, .tmp x]) (tmps : Array Value) (P : Program) (w : World) :
    (results fn tmps).run P w = .ok (.tuple #[tmps.getD t undef, tmps.getD u undef, tmps.getD v undef, tmps.getD x undef]) w := by
  simp [results, h, go_sem]
/-- The stripe of a key. -/
def sOf (n : Nat) (k : AutM.Ke) : Nat := hashN k.a k.b k.p k.q k.r % n
/-- A stripe's flows. -/
def partG (c : AutM.Ke → Nat) (i : Nat) (fs : List Fl) : List Fl := fs.filter fun f => decide (c f.k = i)
abbrev part (n i : Nat) (fs : List Fl) : List Fl := partG (sOf n) i fs
/-- A flow put: in place of one with its key, or where its key stands. -/
def upd (g : Fl) (fs : List Fl) : List Fl := if (find g.k fs).isSome then put g fs else ins g fs
theorem upd_some {g f : Fl} {fs : List Fl} (h : find g.k fs = some f) : upd g fs = put g fs := by unfold upd; rw [h]; rfl
theorem upd_none {g : Fl} {fs : List Fl} (h : find g.k fs = none) : upd g fs = ins g fs := by unfold upd; rw [h]; rfl
theorem oks_upd {fs : List Fl} (h : Oks fs) {g : Fl} (hg : g.Ok) : Oks (upd g fs) := by
  cases hf : find g.k fs with
  | some f => rw [upd_some hf]; exact h.put hg
  | none => rw [upd_none hf]; exact h.ins hg hf
theorem sOf_lt {n : Nat} (hn : 0 < n) (k : AutM.Ke) : sOf n k < n := Nat.mod_lt _ hn
theorem mem_part {c : AutM.Ke → Nat} {i : Nat} {fs : List Fl} {f : Fl} : f ∈ partG c i fs ↔ f ∈ fs ∧ c f.k = i := by unfold partG; simp
theorem oks_part {fs : List Fl} (h : Oks fs) (c : AutM.Ke → Nat) (i : Nat) : Oks (partG c i fs) := ⟨fun f hf => h.ok f (mem_part.1 hf).1, List.Pairwise.filter _ h.srt⟩
theorem find_part {fs : List Fl} (h : Oks fs) (c : AutM.Ke → Nat) (k : AutM.Ke) : find k (partG c (c k) fs) = find k fs := by
  cases hf : find k fs with
  | some f =>
    obtain ⟨hm, hk⟩ := find_some hf
    have := (oks_part h c (c k)).find_of (mem_part.2 ⟨hm, by rw [hk]⟩)
    rwa [hk] at this
  | none =>
    unfold find
    rw [List.find?_eq_none]
    intro f hm
    simpa using find_none hf f (mem_part.1 hm).1
theorem part_drop (c : AutM.Ke → Nat) (i : Nat) (k : AutM.Ke) (fs : List Fl) : partG c i (drop k fs) = drop k (partG c i fs) := by
  unfold partG TabM.drop
  rw [List.filter_filter, List.filter_filter]
  congr 1
  funext f
  exact Bool.and_comm _ _
theorem part_drop_ne {c : AutM.Ke → Nat} {i : Nat} {k : AutM.Ke} (h : c k ≠ i) (fs : List Fl) : partG c i (drop k fs) = partG c i fs := by
  rw [part_drop]
  unfold TabM.drop
  rw [List.filter_eq_self]
  intro f hf
  have h2 := (mem_part.1 hf).2
  simp only [decide_eq_true_eq]
  intro e; rw [e] at h2; exact h h2
theorem part_put (c : AutM.Ke → Nat) (i : Nat) (g : Fl) (fs : List Fl) : partG c i (put g fs) = put g (partG c i fs) := by
  unfold partG TabM.put
  rw [List.filter_map]
  refine congrArg (List.map _) (List.filter_congr fun f _ => ?_)
  show decide (c (if f.k = g.k then g else f).k = i) = _
  split
  · rename_i e; rw [e]
  · rfl
theorem put_none {g : Fl} {fs : List Fl} (h : ∀ f ∈ fs, f.k ≠ g.k) : put g fs = fs := by
  unfold TabM.put
  exact (List.map_congr_left (g := id) fun x hx => by rw [if_neg (h x hx)]; rfl).trans (List.map_id fs)
theorem part_put_ne {c : AutM.Ke → Nat} {i : Nat} {g : Fl} (h : c g.k ≠ i) (fs : List Fl) : partG c i (put g fs) = partG c i fs := by
  rw [part_put]
  exact put_none fun f hf e => h (by rw [← e]; exact (mem_part.1 hf).2)
theorem part_ins (c : AutM.Ke → Nat) (i : Nat) (g : Fl) (fs : List Fl) : (partG c i (ins g fs)).Perm (if c g.k = i then g :: partG c i fs else partG c i fs) := by
  refine ((ins_perm g fs).filter _).trans ?_
  rw [List.filter_cons]
  by_cases h : c g.k = i
  · rw [if_pos (by simpa using h), if_pos h]; exact List.Perm.refl _
  · rw [if_neg (by simpa using h), if_neg h]; exact List.Perm.refl _
theorem part_upd_ne {c : AutM.Ke → Nat} {i : Nat} {g : Fl} (h : c g.k ≠ i) (fs : List Fl) : (partG c i fs).Perm (partG c i (upd g fs)) := by
  unfold upd
  split
  · rw [part_put_ne h]
  · have := part_ins c i g fs
    rw [if_neg h] at this
    exact this.symm
theorem part_upd {c : AutM.Ke → Nat} {g : Fl} {fs : List Fl} (ho : Oks fs) : (upd g (partG c (c g.k) fs)).Perm (partG c (c g.k) (upd g fs)) := by
  have hf := find_part ho c g.k
  unfold upd
  rw [hf]
  split
  · rw [part_put]
  · have := part_ins c (c g.k) g fs
    rw [if_pos rfl] at this
    exact (ins_perm g _).trans this.symm
theorem len_upd (g : Fl) (fs : List Fl) : (upd g fs).length ≤ fs.length + 1 := by
  unfold upd; split
  · rw [len_put]; omega
  · rw [len_ins]; exact Nat.le_refl _
theorem len_drop_le (k : AutM.Ke) (fs : List Fl) : (drop k fs).length ≤ fs.length := by unfold TabM.drop; exact List.length_filter_le _ _

/-- What lies in the blocks of a table: its own block B, the row S of its stripes, the map of each stripe; O are the blocks that are its own. -/
structure TR (w : World) (O : Nat → Prop) (B mb n S : Nat) (M : Nat → Nat) (fs : List Fl) : Prop where
  blk : Blk w B #[ptr mb, .slice (some ⟨S, 0, none⟩) n n] 77
  row : ∀ i, i < n → w.cell? ⟨S, i, none⟩ = some (.map (some (M i)))
  map : ∀ i, i < n → MapAt w (M i) (part n i fs)
  inj : ∀ i j, i < n → j < n → M i = M j → i = j
  ns : S ≠ B
  nm : ∀ i, i < n → M i ≠ B ∧ M i ≠ S
  ob : O B
  os : O S
  om : ∀ i, i < n → O (M i)
  lt : ∀ j, O j → j < w.heap.size
section
variable {w w' : World} {O O' : Nat → Prop} {B mb n S : Nat} {M : Nat → Nat} {fs fs' : List Fl}
theorem TR.keep (H : TR w O B mb n S M fs) (hs : w.heap.size ≤ w'.heap.size) (h : ∀ k, O k → w'.heap[k]? = w.heap[k]?) : TR w' O B mb n S M fs where
  blk := H.blk.keep (h _ H.ob)
  row := fun i hi => (World.cell?_of_block (w := w) (a := ⟨S, i, none⟩) (h S H.os)).trans (H.row i hi)
  map := fun i hi => (H.map i hi).keep (h _ (H.om i hi))
  inj := H.inj
  ns := H.ns
  nm := H.nm
  ob := H.ob
  os := H.os
  om := H.om
  lt := fun j hj => Nat.lt_of_lt_of_le (H.lt j hj) hs
theorem TR.far (H : TR w O B mb n S M fs) (h : Only O' w w') (hd : ∀ j, O j → ¬ O' j) : TR w' O B mb n S M fs := H.keep h.size fun k hk => h.block k (H.lt k hk) (hd k hk)
theorem TR.next (H : TR w O B mb n S M fs) (hb : Below w.heap.size w w') : TR w' O B mb n S M fs := H.far (O' := fun _ => False) (Only.of_below hb) (fun _ _ e => e)
/-- One stripe's map turns. -/
theorem TR.turn (H : TR w O B mb n S M fs) {i : Nat} (hi : i < n) (ho : Only (· = M i) w w') (hm : MapAt w' (M i) (part n i fs')) (hp : ∀ j, j < n → j ≠ i → (part n j fs).Perm (part n j fs')) : TR w' O B mb n S M fs' where
  blk := H.blk.only ho (fun e => (H.nm i hi).1 e.symm)
  row := fun j hj => (ho.cell (p := ⟨S, j, none⟩) (H.lt _ H.os) (fun e => (H.nm i hi).2 e.symm)).trans (H.row j hj)
  map := fun j hj => by
    by_cases e : j = i
    · subst e; exact hm
    · exact ((H.map j hj).keep (ho.block _ (H.lt _ (H.om j hj)) (fun e2 => e (H.inj j i hj hi e2)))).perm (hp j hj e)
  inj := H.inj
  ns := H.ns
  nm := H.nm
  ob := H.ob
  os := H.os
  om := H.om
  lt := fun j hj => Nat.lt_of_lt_of_le (H.lt j hj) ho.size
end
/-- Block B holds a table of n stripes on the memory of block mb. -/
def TAt (w : World) (O : Nat → Prop) (B mb n : Nat) (fs : List Fl) : Prop := (∃ S M, TR w O B mb n S M fs) ∧ Oks fs ∧ isPow (n : Int) = true
section
variable {w w' : World} {O O' : Nat → Prop} {B mb n : Nat} {fs : List Fl}
theorem TAt.far (H : TAt w O B mb n fs) (h : Only O' w w') (hd : ∀ j, O j → ¬ O' j) : TAt w' O B mb n fs := by
  obtain ⟨⟨S, M, h1⟩, h2⟩ := H
  exact ⟨⟨S, M, h1.far h hd⟩, h2⟩
theorem TAt.next (H : TAt w O B mb n fs) (hb : Below w.heap.size w w') : TAt w' O B mb n fs := H.far (O' := fun _ => False) (Only.of_below hb) (fun _ _ e => e)
theorem TAt.lt_ (H : TAt w O B mb n fs) : ∀ j, O j → j < w.heap.size := by obtain ⟨⟨S, M, h1⟩, h2⟩ := H; exact h1.lt
theorem TAt.pos (H : TAt w O B mb n fs) : 1 ≤ n ∧ n ≤ 4096 := by have := KeyM.isPow_bd H.2.2; omega
end
/-- A world, and what lies in some blocks that no one else may turn. -/
structure Fw extends World where
  F : Nat → Obj → Prop
/-- One block more. -/
def Fw.add (w : Fw) (g : Nat) (o : Obj) : Fw := { w with F := fun j x => w.F j x ∨ (j = g ∧ x = o) }
/-- All blocks of O more, as they lie in W. -/
def Fw.with (w : Fw) (O : Nat → Prop) (W : World) : Fw := { w with F := fun j x => w.F j x ∨ (O j ∧ W.heap[j]? = some x) }
/-- A memory and a table on it, apart, made since world w. -/
structure TM (w : Fw) (Om Ot : Nat → Prop) (mb B : Nat) (ms : Ms) (n : Nat) (fs : List Fl) (W : World) : Prop where
  mem : Me.MAt W Om mb ms
  tab : TAt W Ot B mb n fs
  bel : Below w.heap.size w.toWorld W
  nm : ∀ j, Om j → w.heap.size ≤ j
  nt : ∀ j, Ot j → w.heap.size ≤ j
  dis : ∀ j, Om j → ¬ Ot j
  fr : ∀ j o, w.F j o → W.heap[j]? = some o
  nf : ∀ j o, w.F j o → ¬ Om j ∧ ¬ Ot j
section
variable {w : Fw} {W w' : World} {Om Ot O' : Nat → Prop} {mb B : Nat} {ms ms' : Ms} {n : Nat} {fs fs' : List Fl}
theorem some_lt {W : World} {j : Nat} {o : Obj} (h : W.heap[j]? = some o) : j < W.heap.size := (Array.getElem?_eq_some_iff.1 h).1
theorem TM.next (H : TM w Om Ot mb B ms n fs W) (hb : Below W.heap.size W w') : TM w Om Ot mb B ms n fs w' := ⟨H.mem.next hb, H.tab.next hb, H.bel.trans (hb.mono H.bel.size), H.nm, H.nt, H.dis, fun j o h => (hb.block j (some_lt (H.fr j o h))).trans (H.fr j o h), H.nf⟩
theorem TM.left (H : TM w Om Ot mb B ms n fs W) (hp : Me.MAt w' O' mb ms') (ho : Only Om W w') (hO : ∀ j, O' j → Om j ∨ W.heap.size ≤ j) : TM w O' Ot mb B ms' n fs w' :=
  ⟨hp, H.tab.far ho (fun j hb ha => H.dis j ha hb), H.bel.trans (ho.below H.nm H.bel.size), fun j hj => (hO j hj).elim (H.nm j) (fun h => Nat.le_trans H.bel.size h), H.nt, fun j hj hb => (hO j hj).elim (fun h => H.dis j h hb) (fun h => by have := H.tab.lt_ j hb; omega),
    fun j o h => (ho.block j (some_lt (H.fr j o h)) (H.nf j o h).1).trans (H.fr j o h), fun j o h => ⟨fun hj => (hO j hj).elim (H.nf j o h).1 (fun e => by have := some_lt (H.fr j o h); omega), (H.nf j o h).2⟩⟩
theorem TM.right (H : TM w Om Ot mb B ms n fs W) (hp : TAt w' Ot B mb n fs') (ho : Only Ot W w') : TM w Om Ot mb B ms n fs' w' :=
  ⟨H.mem.far ho H.dis, hp, H.bel.trans (ho.below H.nt H.bel.size), H.nm, H.nt, H.dis, fun j o h => (ho.block j (some_lt (H.fr j o h)) (H.nf j o h).2).trans (H.fr j o h), H.nf⟩
/-- A block that came is kept from now on. -/
theorem TM.add (H : TM w Om Ot mb B ms n fs W) (o : Obj) : TM (w.add W.heap.size o) Om Ot mb B ms n fs (W.alloc o) := by
  have h := H.next (w' := W.alloc o) ((Below.refl _ W).alloc (Nat.le_refl _) o)
  refine ⟨h.mem, h.tab, h.bel, h.nm, h.nt, h.dis, fun j x hx => ?_, fun j x hx => ?_⟩
  · rcases hx with hx | ⟨rfl, rfl⟩
    · exact h.fr j x hx
    · exact heap_alloc_new W _
  · rcases hx with hx | ⟨rfl, rfl⟩
    · exact h.nf j x hx
    · exact ⟨fun e => Nat.lt_irrefl _ (H.mem.lt _ e), fun e => Nat.lt_irrefl _ (H.tab.lt_ _ e)⟩
theorem TM.drop {g : Nat} {o : Obj} (H : TM (w.add g o) Om Ot mb B ms n fs W) : TM w Om Ot mb B ms n fs W := ⟨H.mem, H.tab, H.bel, H.nm, H.nt, H.dis, fun j x h => H.fr j x (.inl h), fun j x h => H.nf j x (.inl h)⟩
theorem TM.box {g : Nat} {cs : Array Value} {t : TypeId} (H : TM (w.add g (.cells cs t (0, 0))) Om Ot mb B ms n fs W) : Blk W g cs t := H.fr g _ (.inr ⟨rfl, rfl⟩)
theorem TM.with {O : Nat → Prop} (H : TM w Om Ot mb B ms n fs W) (h : ∀ j, O j → ¬ Om j ∧ ¬ Ot j) : TM (w.with O W) Om Ot mb B ms n fs W :=
  ⟨H.mem, H.tab, H.bel, H.nm, H.nt, H.dis, fun j x hx => hx.elim (H.fr j x) fun e => e.2, fun j x hx => hx.elim (H.nf j x) fun e => h j e.1⟩
theorem TM.without {O : Nat → Prop} {W0 : World} (H : TM (w.with O W0) Om Ot mb B ms n fs W) (hlt : ∀ j, O j → j < W0.heap.size) : TM w Om Ot mb B ms n fs W ∧ (∀ j, O j → W.heap[j]? = W0.heap[j]?) ∧ ∀ j, O j → ¬ Om j ∧ ¬ Ot j := by
  have get : ∀ j, O j → ∃ o, W0.heap[j]? = some o := fun j hj => ⟨_, Array.getElem?_eq_getElem (hlt j hj)⟩
  refine ⟨⟨H.mem, H.tab, H.bel, H.nm, H.nt, H.dis, fun j x h => H.fr j x (.inl h), fun j x h => H.nf j x (.inl h)⟩, fun j hj => ?_, fun j hj => ?_⟩
  · obtain ⟨o, ho⟩ := get j hj
    exact (H.fr j o (.inr ⟨hj, ho⟩)).trans ho.symm
  · obtain ⟨o, ho⟩ := get j hj
    exact H.nf j o (.inr ⟨hj, ho⟩)
end
/-- Does a thread hold a mutex? -/
def heldB (ms : Ms) (t i : Int) : Bool := decide (0 ≤ t) && (holdV ms i == t)
/-- What a method answers and leaves. -/
def Td (w : Fw) (Ot : Nat → Prop) (mb B : Nat) (v : Value) (ms : Ms) (n : Nat) (fs : List Fl) : Ending → World → Prop := fun e w' => ∃ Om, e = .returned v ∧ TM w Om Ot mb B ms n fs w'
section
variable {w : Fw} {W : World} {Om Ot : Nat → Prop} {mb B : Nat} {ms : Ms} {n : Nat} {fs : List Fl}
theorem holds_any (H : TM w Om Ot mb B ms n fs W) (t i : Int) : Calls Try.prog 42 #[ptr B, .int .i64 t, .int .i64 i] W fun e w' => e = .returned (.bool (heldB ms t i)) ∧ W = w' := by
  have HH := Lib.hid (Me.holder_any H.mem i)
  obtain ⟨⟨S, M, h1⟩, h2⟩ := H.tab
  have c0 := h1.blk.cell 0 _ rfl
  obtain ⟨hv, hhv⟩ : ∃ v, holdV ms i = v := ⟨_, rfl⟩
  rw [hhv] at HH
  unfold heldB
  rw [hhv]
  clear H h1 h2 hhv
  by_cases h : 0 ≤ t
  · rw [decide_eq_true h, Bool.true_and]
    have d1 : decide (0 ≤ t) = true := decide_eq_true h
    obtain ⟨b, hb⟩ : ∃ b, (hv == t) = b := ⟨_, rfl⟩
    rw [hb]
    clear h
    go_enter Try.func42, Try.ntmps42
    go_wp2_with fail
    go_at_call 54
    refine HH.out.mono ?_
    rintro e w' ⟨rfl, rfl⟩
    go_wp2_with fail
    go_ret
    exact ⟨by first | rfl | (rw [← hb]; rfl), rfl⟩
  · rw [decide_eq_false h, Bool.false_and]
    have d1 : decide (0 ≤ t) = false := decide_eq_false h
    clear h
    go_enter Try.func42, Try.ntmps42
    go_wp2_with fail
    go_ret
    exact ⟨rfl, rfl⟩
end
end Tb
end Go.Proofs.Ytgcnhbjoalemlaa
/- Layer 20: the reference's table in its blocks; its Of, may, place. (Written by wip/tools/mkTabR.py.) -/
set_option linter.unusedVariables false
set_option linter.unusedSimpArgs false
set_option maxRecDepth 100000
namespace Go.Proofs.Ytgcnhbjoalemlaa
open Go.ChangeShapes Go.WideShapes Go.ChangeAt Go.RowKit Go.Mtl Go.Lib
namespace Tb
open TabM
open KeyM (isPow hashN strN)
open MemM (Ms holdV touchS)
open Me (ptr)
namespace R
/-- A flow's seven cells. -/
def g7 (f : Fl) : List Value := [.int .u32 (f.k.a : Int), .int .u32 (f.k.b : Int), .int .u16 (f.k.p : Int), .int .u16 (f.k.q : Int), .int .u8 (f.k.r : Int), .int .i64 f.x, .bool f.dn]
def gvs (fs : List Fl) : List Value := fs.flatMap g7
theorem gvs_len (fs : List Fl) : (gvs fs).length = fs.length * 7 := by
  unfold gvs
  induction fs with
  | nil => rfl
  | cons f fs ih => simp [List.flatMap_cons, ih, g7]; omega
theorem gvs_append (xs ys : List Fl) : gvs (xs ++ ys) = gvs xs ++ gvs ys := by simp [gvs]
theorem gvs_one (fs : List Fl) : ∀ u ∈ gvs fs, u.oneCell' = true := by
  intro u hu
  obtain ⟨f, _, h⟩ := List.mem_flatMap.1 hu
  simp [g7] at h
  rcases h with rfl | rfl | rfl | rfl | rfl | rfl | rfl <;> rfl
theorem gvs_at : ∀ (fs : List Fl) (i : Nat) (f : Fl), fs[i]? = some f → ∀ j, j < 7 → (gvs fs)[i * 7 + j]? = (g7 f)[j]? := by
  intro fs
  induction fs with
  | nil => intro i f h; simp at h
  | cons g fs ih =>
    intro i f h j hj
    have e : gvs (g :: fs) = g7 g ++ gvs fs := rfl
    rw [e]
    cases i with
    | zero =>
      simp at h; subst h
      rw [Nat.zero_mul, Nat.zero_add, List.getElem?_append_left (by simp [g7]; omega)]
    | succ i =>
      rw [List.getElem?_append_right (by simp [g7]; omega), show (i + 1) * 7 + j - (g7 g).length = i * 7 + j by simp [g7]; omega]
      exact ih i f (by simpa using h) j hj
theorem gvs_take (fs : List Fl) (n : Nat) : gvs (fs.take n) = (gvs fs).take (n * 7) := by
  by_cases h : n ≤ fs.length
  · have e : gvs fs = gvs (fs.take n) ++ gvs (fs.drop n) := by rw [← gvs_append, List.take_append_drop]
    rw [e, List.take_left' (by rw [gvs_len, List.length_take, Nat.min_eq_left h])]
  · rw [List.take_of_length_le (by omega), List.take_of_length_le (by rw [gvs_len]; omega)]
theorem gvs_drop (fs : List Fl) (n : Nat) : gvs (fs.drop n) = (gvs fs).drop (n * 7) := by
  by_cases h : n ≤ fs.length
  · have e : gvs fs = gvs (fs.take n) ++ gvs (fs.drop n) := by rw [← gvs_append, List.take_append_drop]
    rw [e, List.drop_left' (by rw [gvs_len, List.length_take, Nat.min_eq_left h])]
  · rw [List.drop_eq_nil_of_le (by omega), List.drop_eq_nil_of_le (by rw [gvs_len]; omega)]; rfl
theorem row_cells {w : World} {base e size n c : Nat} {A : Option Addr} {xs : List Value} (h : w.ownsRow base e size (.slice A n c) n xs) : 0 < n → ∃ b, A = some ⟨b, 0, none⟩ ∧ b < w.heap.size ∧ ∀ j u, xs[j]? = some u → w.cell? ⟨b, j, none⟩ = some u := by
  intro hn
  rcases h.2 with ⟨_, h0⟩ | ⟨b, cap, cur, e1, _, h3, _⟩
  · omega
  · injection e1 with e1 _ _
    subst e1
    refine ⟨b, rfl, (Array.getElem?_eq_some_iff.1 h3).1, fun j u hu => ?_⟩
    have := h.cells (g := b) rfl j u hu
    have e : (Addr.add ⟨b, 0, none⟩ j) = ⟨b, j, none⟩ := by unfold Addr.add; split <;> simp_all
    rwa [e] at this
/-- The first elements of a row, as a slice; those from a place on. -/
theorem row_take {w : World} {base e size n c : Nat} {A : Option Addr} {xs : List Value} (h : w.ownsRow base e size (.slice A n c) n xs) {i : Nat} (hi : i ≤ n) : Rd w w.heap.size size i (.slice A i c) (xs.take (i * size)) := by
  obtain ⟨A', c', e, h1, h2⟩ := row_form h
  injection e with e1 _ e3
  subst e1 e3
  refine ⟨A, c, rfl, by omega, h2, ?_, fun hp => ?_⟩
  · rw [List.length_take, h.1, Nat.min_eq_left (Nat.mul_le_mul hi (Nat.le_refl _))]
  · obtain ⟨b, rfl, hb, hc⟩ := row_cells h (by omega)
    refine ⟨b, 0, rfl, hb, fun j u hu => ?_⟩
    rw [Nat.zero_add]
    refine hc j u ?_
    rw [List.getElem?_take] at hu
    split at hu
    · exact hu
    · cases hu
theorem row_drop {w : World} {base e size n c : Nat} {A : Option Addr} {xs : List Value} (h : w.ownsRow base e size (.slice A n c) n xs) {i : Nat} (hi : i ≤ n) {A' : Option Addr} (hA : 0 < n - i → ∀ b, A = some ⟨b, 0, none⟩ → A' = some ⟨b, i * size, none⟩) : Rd w w.heap.size size (n - i) (.slice A' (n - i) (c - i)) (xs.drop (i * size)) := by
  obtain ⟨A'', c', e, h1, h2⟩ := row_form h
  injection e with e1 _ e3
  subst e1 e3
  refine ⟨A', c - i, rfl, by omega, by omega, ?_, fun hp => ?_⟩
  · rw [List.length_drop, h.1, Nat.sub_mul]
  · obtain ⟨b, e1, hb, hc⟩ := row_cells h (by omega)
    refine ⟨b, i * size, hA hp b e1, hb, fun j u hu => hc _ u ?_⟩
    rwa [List.getElem?_drop] at hu
theorem below_box (w : World) (o : Obj) : Below w.heap.size w (w.alloc o) := (Below.refl _ w).alloc (Nat.le_refl _) o
theorem str_is {n : Nat} (hn : isPow (n : Int) = true) (k : AutM.Ke) : strN (hashN k.a k.b k.p k.q k.r) (n : Int) = ((sOf n k : Nat) : Int) := by
  rw [KeyM.strN_yes hn]
  unfold sOf
  omega
/-- Where the reference's search ends. -/
theorem rank_is {k : AutM.Ke} : ∀ {fs : List Fl} {j : Nat}, j ≤ fs.length → (∀ i f, i < j → fs[i]? = some f → f.k.num < k.num) → (j = fs.length ∨ ∃ f, fs[j]? = some f ∧ ¬ f.k.num < k.num) → rank k fs = j := by
  intro fs
  induction fs with
  | nil => intro j hj _ _; simp at hj; subst hj; rfl
  | cons f fs ih =>
    intro j hj h1 h2
    unfold rank
    cases j with
    | zero =>
      rcases h2 with h2 | ⟨g, hg, hn⟩
      · simp at h2
      · simp at hg; subst hg; rw [if_neg hn]
    | succ j =>
      rw [if_pos (h1 0 f (by omega) rfl), ih (by simpa using hj) (fun i g hi hg => h1 (i + 1) g (by omega) (by simpa using hg))]
      rcases h2 with h2 | ⟨g, hg, hn⟩
      · exact .inl (by simpa using h2)
      · exact .inr ⟨g, by simpa using hg, hn⟩
theorem find_rank {fs : List Fl} (h : Oks fs) {k : AutM.Ke} {f : Fl} (hf : find k fs = some f) : fs[rank k fs]? = some f := by
  obtain ⟨hm, hk⟩ := find_some hf
  obtain ⟨i, hi⟩ := List.mem_iff_getElem?.1 hm
  obtain ⟨hil, hie⟩ := List.getElem?_eq_some_iff.1 hi
  have hr : rank k fs = i := rank_is (by omega) (fun j g hj hg => by
    obtain ⟨hjl, hje⟩ := List.getElem?_eq_some_iff.1 hg
    have := (List.pairwise_iff_getElem.1 h.srt) j i hjl hil hj
    rw [hje, hie, hk] at this; exact this) (.inr ⟨f, hi, by rw [hk]; omega⟩)
  rw [hr]; exact hi
theorem less_true {a b : AutM.Ke} (ha : a.Ok) (hb : b.Ok) (h : a.num < b.num) : KeyM.lessB a.a a.b a.p a.q a.r b.a b.b b.p b.q b.r = true := by
  have e := AutM.Ke.less_is ha hb
  unfold AutM.Ke.less at e
  rw [e]; exact decide_eq_true h
theorem less_false {a b : AutM.Ke} (ha : a.Ok) (hb : b.Ok) (h : ¬ a.num < b.num) : KeyM.lessB a.a a.b a.p a.q a.r b.a b.b b.p b.q b.r = false := by
  have e := AutM.Ke.less_is ha hb
  unfold AutM.Ke.less at e
  rw [e]; exact decide_eq_false h
/-- What lies in the blocks of the reference's table: its own block B, its flows; O are the blocks that are its own. -/
structure RU (w : World) (O : Nat → Prop) (B mb n : Nat) (vf : Value) (fs : List Fl) : Prop where
  blk : Blk w B #[ptr mb, .int .i64 (n : Int), vf] 82
  fr : w.ownsRow 0 96 7 vf fs.length (gvs fs)
  fo : ∀ g, vf.ownBlock = some g → O g ∧ g ≠ B
  ob : O B
  lt : ∀ j, O j → j < w.heap.size
section
variable {w w' : World} {O O' : Nat → Prop} {B mb n : Nat} {vf : Value} {fs : List Fl}
theorem RU.keep (H : RU w O B mb n vf fs) (hs : w.heap.size ≤ w'.heap.size) (h : ∀ k, O k → w'.heap[k]? = w.heap[k]?) : RU w' O B mb n vf fs where
  blk := H.blk.keep (h _ H.ob)
  fr := row_keep H.fr fun g e => h g (H.fo g e).1
  fo := H.fo
  ob := H.ob
  lt := fun j hj => Nat.lt_of_lt_of_le (H.lt j hj) hs
theorem RU.far (H : RU w O B mb n vf fs) (h : Only O' w w') (hd : ∀ j, O j → ¬ O' j) : RU w' O B mb n vf fs := H.keep h.size fun k hk => h.block k (H.lt k hk) (hd k hk)
theorem RU.next (H : RU w O B mb n vf fs) (hb : Below w.heap.size w w') : RU w' O B mb n vf fs := H.far (O' := fun _ => False) (Only.of_below hb) (fun _ _ e => e)
/-- Other flows, in a row that came since world w0. -/
theorem RU.flows {w0 : World} (H : RU w0 O B mb n vf fs) (hb : Below w0.heap.size w0 w) {vf' : Value} {fs' : List Fl} (hr : w.ownsRow w0.heap.size 96 7 vf' fs'.length (gvs fs')) :
    RU (w.setCell ⟨B, 2, none⟩ vf') (fun j => O j ∨ (w0.heap.size ≤ j ∧ j < w.heap.size)) B mb n vf' fs' ∧ Only O w0 (w.setCell ⟨B, 2, none⟩ vf') := by
  have H1 := H.next hb
  have hBlt := H.lt _ H.ob
  have hnew : ∀ g, vf'.ownBlock = some g → w0.heap.size ≤ g ∧ g < w.heap.size := fun g e => hr.lt g e
  have hsz : (w.setCell ⟨B, 2, none⟩ vf').heap.size = w.heap.size := by simp [World.setCell]
  refine ⟨⟨H1.blk.set' 2 vf' rfl, ?_, fun g e => ?_, .inl H.ob, ?_⟩, (Only.of_below hb : Only O w0 w).setCell (.inl H.ob) vf'⟩
  · exact row_base (row_keep hr fun g e => Below.heap_setCell _ _ _ _ (fun e2 => by have h1 := (hnew g e).1; have e3 : g = B := e2; omega)) (fun _ _ => Nat.zero_le _)
  · have h1 := hnew g e
    exact ⟨.inr h1, by omega⟩
  · intro j hj
    rw [hsz]
    exact hj.elim (fun h => Nat.lt_of_lt_of_le (H.lt j h) hb.size) (fun h => h.2)
theorem RU.len (H : RU w O B mb n vf fs) : ∃ A c, vf = .slice A fs.length c ∧ fs.length ≤ c ∧ c ≤ 9223372036854775807 := row_form H.fr
/-- One of its flows: where its cells are. -/
theorem RU.flow (H : RU w O B mb n vf fs) {i : Nat} {f : Fl} (hf : fs[i]? = some f) : ∃ g c, vf = .slice (some ⟨g, 0, none⟩) fs.length c ∧ fs.length ≤ c ∧ c ≤ 9223372036854775807 ∧ O g ∧ g ≠ B ∧
    w.cell? ⟨g, i * 7, none⟩ = some (.int .u32 (f.k.a : Int)) ∧ w.cell? ⟨g, i * 7 + 1, none⟩ = some (.int .u32 (f.k.b : Int)) ∧ w.cell? ⟨g, i * 7 + 2, none⟩ = some (.int .u16 (f.k.p : Int)) ∧ w.cell? ⟨g, i * 7 + 3, none⟩ = some (.int .u16 (f.k.q : Int)) ∧ w.cell? ⟨g, i * 7 + 4, none⟩ = some (.int .u8 (f.k.r : Int)) ∧
    w.cell? ⟨g, i * 7 + 5, none⟩ = some (.int .i64 f.x) ∧ w.cell? ⟨g, i * 7 + 6, none⟩ = some (.bool f.dn) := by
  have hat := gvs_at fs i f hf
  have c0 := hat 0 (by omega)
  obtain ⟨g, c, e, h1, h2, -, -, h5, -⟩ := row_cell H.fr (j := i * 7 + 0) (u := .int .u32 (f.k.a : Int)) c0
  have ho := H.fo g (by rw [e]; rfl)
  have cell : ∀ j u, j < 7 → (g7 f)[j]? = some u → w.cell? ⟨g, i * 7 + j, none⟩ = some u := fun j u hj hu => by
    obtain ⟨g', c', e', -, -, -, -, h, -⟩ := row_cell H.fr (j := i * 7 + j) (u := u) ((hat j hj).trans hu)
    rw [e] at e'
    injection e' with e'
    injection e' with e'
    injection e' with e'
    subst e'
    exact h
  exact ⟨g, c, e, h1, h2, ho.1, ho.2, cell 0 _ (by omega) rfl, cell 1 _ (by omega) rfl, cell 2 _ (by omega) rfl, cell 3 _ (by omega) rfl, cell 4 _ (by omega) rfl, cell 5 _ (by omega) rfl, cell 6 _ (by omega) rfl⟩
theorem RU.cells_ {gf L c : Nat} (H : RU w O B mb n (.slice (some ⟨gf, 0, none⟩) L c) fs) {i : Nat} {f : Fl} (hf : fs[i]? = some f) :
    w.cell? ⟨gf, i * 7, none⟩ = some (.int .u32 (f.k.a : Int)) ∧ w.cell? ⟨gf, i * 7 + 1, none⟩ = some (.int .u32 (f.k.b : Int)) ∧ w.cell? ⟨gf, i * 7 + 2, none⟩ = some (.int .u16 (f.k.p : Int)) ∧ w.cell? ⟨gf, i * 7 + 3, none⟩ = some (.int .u16 (f.k.q : Int)) ∧ w.cell? ⟨gf, i * 7 + 4, none⟩ = some (.int .u8 (f.k.r : Int)) ∧
    w.cell? ⟨gf, i * 7 + 5, none⟩ = some (.int .i64 f.x) ∧ w.cell? ⟨gf, i * 7 + 6, none⟩ = some (.bool f.dn) := by
  obtain ⟨g, c', e, -, -, -, -, h⟩ := H.flow hf
  injection e with e
  injection e with e
  injection e with e
  subst e
  exact h
end
/-- Block B holds the reference's table of n stripes on the memory of block mb. -/
def UAt (w : World) (O : Nat → Prop) (B mb n : Nat) (fs : List Fl) : Prop := (∃ vf, RU w O B mb n vf fs) ∧ Oks fs ∧ isPow (n : Int) = true
section
variable {w w' : World} {O O' : Nat → Prop} {B mb n : Nat} {fs : List Fl}
theorem UAt.far (H : UAt w O B mb n fs) (h : Only O' w w') (hd : ∀ j, O j → ¬ O' j) : UAt w' O B mb n fs := by
  obtain ⟨⟨vf, h1⟩, h2⟩ := H
  exact ⟨⟨vf, h1.far h hd⟩, h2⟩
theorem UAt.next (H : UAt w O B mb n fs) (hb : Below w.heap.size w w') : UAt w' O B mb n fs := H.far (O' := fun _ => False) (Only.of_below hb) (fun _ _ e => e)
theorem UAt.lt_ (H : UAt w O B mb n fs) : ∀ j, O j → j < w.heap.size := by obtain ⟨⟨vf, h1⟩, h2⟩ := H; exact h1.lt
theorem UAt.pos (H : UAt w O B mb n fs) : 1 ≤ n ∧ n ≤ 4096 := by have := KeyM.isPow_bd H.2.2; omega
end
/-- The reference's memory and its table on it, apart, made since world w. -/
structure RM (w : Fw) (Om Ot : Nat → Prop) (mb B : Nat) (ms : Ms) (n : Nat) (fs : List Fl) (W : World) : Prop where
  mem : Me.RAt W Om mb ms
  tab : UAt W Ot B mb n fs
  bel : Below w.heap.size w.toWorld W
  nm : ∀ j, Om j → w.heap.size ≤ j
  nt : ∀ j, Ot j → w.heap.size ≤ j
  dis : ∀ j, Om j → ¬ Ot j
  fr : ∀ j o, w.F j o → W.heap[j]? = some o
  nf : ∀ j o, w.F j o → ¬ Om j ∧ ¬ Ot j
section
variable {w : Fw} {W w' : World} {Om Ot O' : Nat → Prop} {mb B : Nat} {ms ms' : Ms} {n : Nat} {fs fs' : List Fl}
theorem RM.next (H : RM w Om Ot mb B ms n fs W) (hb : Below W.heap.size W w') : RM w Om Ot mb B ms n fs w' := ⟨H.mem.next hb, H.tab.next hb, H.bel.trans (hb.mono H.bel.size), H.nm, H.nt, H.dis, fun j o h => (hb.block j (some_lt (H.fr j o h))).trans (H.fr j o h), H.nf⟩
theorem RM.left (H : RM w Om Ot mb B ms n fs W) (hp : Me.RAt w' O' mb ms') (ho : Only Om W w') (hO : ∀ j, O' j → Om j ∨ W.heap.size ≤ j) : RM w O' Ot mb B ms' n fs w' :=
  ⟨hp, H.tab.far ho (fun j hb ha => H.dis j ha hb), H.bel.trans (ho.below H.nm H.bel.size), fun j hj => (hO j hj).elim (H.nm j) (fun h => Nat.le_trans H.bel.size h), H.nt, fun j hj hb => (hO j hj).elim (fun h => H.dis j h hb) (fun h => by have := H.tab.lt_ j hb; omega),
    fun j o h => (ho.block j (some_lt (H.fr j o h)) (H.nf j o h).1).trans (H.fr j o h), fun j o h => ⟨fun hj => (hO j hj).elim (H.nf j o h).1 (fun e => by have := some_lt (H.fr j o h); omega), (H.nf j o h).2⟩⟩
theorem RM.right (H : RM w Om Ot mb B ms n fs W) (hp : UAt w' O' B mb n fs') (ho : Only Ot W w') (hO : ∀ j, O' j → Ot j ∨ W.heap.size ≤ j) : RM w Om O' mb B ms n fs' w' :=
  ⟨H.mem.far ho H.dis, hp, H.bel.trans (ho.below H.nt H.bel.size), H.nm, fun j hj => (hO j hj).elim (H.nt j) (fun h => Nat.le_trans H.bel.size h), fun j ha hj => (hO j hj).elim (H.dis j ha) (fun h => by have := H.mem.lt j ha; omega),
    fun j o h => (ho.block j (some_lt (H.fr j o h)) (H.nf j o h).2).trans (H.fr j o h), fun j o h => ⟨(H.nf j o h).1, fun hj => (hO j hj).elim (H.nf j o h).2 (fun e => by have := some_lt (H.fr j o h); omega)⟩⟩
/-- A block that came is kept from now on. -/
theorem RM.add (H : RM w Om Ot mb B ms n fs W) (o : Obj) : RM (w.add W.heap.size o) Om Ot mb B ms n fs (W.alloc o) := by
  have h := H.next (w' := W.alloc o) ((Below.refl _ W).alloc (Nat.le_refl _) o)
  refine ⟨h.mem, h.tab, h.bel, h.nm, h.nt, h.dis, fun j x hx => ?_, fun j x hx => ?_⟩
  · rcases hx with hx | ⟨rfl, rfl⟩
    · exact h.fr j x hx
    · exact heap_alloc_new W _
  · rcases hx with hx | ⟨rfl, rfl⟩
    · exact h.nf j x hx
    · exact ⟨fun e => Nat.lt_irrefl _ (H.mem.lt _ e), fun e => Nat.lt_irrefl _ (H.tab.lt_ _ e)⟩
theorem RM.drop {g : Nat} {o : Obj} (H : RM (w.add g o) Om Ot mb B ms n fs W) : RM w Om Ot mb B ms n fs W := ⟨H.mem, H.tab, H.bel, H.nm, H.nt, H.dis, fun j x h => H.fr j x (.inl h), fun j x h => H.nf j x (.inl h)⟩
theorem RM.box {g : Nat} {cs : Array Value} {t : TypeId} (H : RM (w.add g (.cells cs t (0, 0))) Om Ot mb B ms n fs W) : Blk W g cs t := H.fr g _ (.inr ⟨rfl, rfl⟩)
theorem RM.with {O : Nat → Prop} (H : RM w Om Ot mb B ms n fs W) (h : ∀ j, O j → ¬ Om j ∧ ¬ Ot j) : RM (w.with O W) Om Ot mb B ms n fs W :=
  ⟨H.mem, H.tab, H.bel, H.nm, H.nt, H.dis, fun j x hx => hx.elim (H.fr j x) fun e => e.2, fun j x hx => hx.elim (H.nf j x) fun e => h j e.1⟩
theorem RM.without {O : Nat → Prop} {W0 : World} (H : RM (w.with O W0) Om Ot mb B ms n fs W) (hlt : ∀ j, O j → j < W0.heap.size) : RM w Om Ot mb B ms n fs W ∧ (∀ j, O j → W.heap[j]? = W0.heap[j]?) ∧ ∀ j, O j → ¬ Om j ∧ ¬ Ot j := by
  have get : ∀ j, O j → ∃ o, W0.heap[j]? = some o := fun j hj => ⟨_, Array.getElem?_eq_getElem (hlt j hj)⟩
  refine ⟨⟨H.mem, H.tab, H.bel, H.nm, H.nt, H.dis, fun j x h => H.fr j x (.inl h), fun j x h => H.nf j x (.inl h)⟩, fun j hj => ?_, fun j hj => ?_⟩
  · obtain ⟨o, ho⟩ := get j hj
    exact (H.fr j o (.inr ⟨hj, ho⟩)).trans ho.symm
  · obtain ⟨o, ho⟩ := get j hj
    exact H.nf j o (.inr ⟨hj, ho⟩)
end
/-- What a method of the reference answers and leaves. -/
def Ud (w : Fw) (mb B : Nat) (v : Value) (ms : Ms) (n : Nat) (fs : List Fl) : Ending → World → Prop := fun e w' => ∃ Om Ot, e = .returned v ∧ RM w Om Ot mb B ms n fs w'
section
variable {w : Fw} {W : World} {Om Ot : Nat → Prop} {mb B : Nat} {ms : Ms} {n : Nat} {fs : List Fl}
set_option maxHeartbeats 1000000 in
theorem of_any (H : RM w Om Ot mb B ms n fs W) (k : AutM.Ke) (hk : k.Ok) (i : Nat) (hi : sOf n k = i) : Calls Try.prog 39 #[ptr B, Au.kyV k] W fun e w' => e = .returned (.int .i64 (i : Int)) ∧ Below W.heap.size W w' := by
  have HST : Hid (∀ W, Calls Try.prog 28 #[.agg (Ky.kyc k.a k.b k.p k.q k.r), .int .i64 (n : Int)] W fun e w' => e = .returned (.int .i64 (i : Int)) ∧ Below W.heap.size W w') := fun W =>
    Ky.refStripe_any k.a k.b k.p k.q k.r (n : Int) hk.a hk.b hk.p hk.q hk.r _ rfl _ (by rw [str_is H.tab.2.2, hi]) W
  have HX := Lib.hid (Blk.box W (Ky.kyc k.a k.b k.p k.q k.r) 37)
  have HB := Lib.hid (below_box W (.cells (Ky.kyc k.a k.b k.p k.q k.r) 37))
  obtain ⟨⟨vf, hru⟩, _⟩ := H.tab
  have HRU := Lib.hid (hru.next (below_box W (.cells (Ky.kyc k.a k.b k.p k.q k.r) 37)))
  clear H hk hi hru
  go_enter Try.func39, Try.ntmps39
  go_wp2_with fail
  obtain ⟨W1, hW1⟩ : ∃ v, W.alloc (.cells (Ky.kyc k.a k.b k.p k.q k.r) 37) = v := ⟨_, rfl⟩
  rw [hW1] at HX HB HRU ⊢
  clear hW1
  refine wp_region_held_drew (S := fun w' => Hid (Below W1.heap.size W1 w')) (by kernel_rfl) (Lib.hid (Below.refl _ W1).drew) (fun hH => ?_)
  refine wpAnyH_take (i := 0) (oi := ⟨some 5, _, _, _, _, _⟩) (v := ?v1) rfl (by kernel_rfl) (by kernel_rfl) (by kernel_rfl) (fun _ _ _ h => h) (Or.inl ⟨rfl, ?c1⟩) hH ?r1
  case c1 => (intro w' hS; obtain ⟨x0, x1, x2, x3, x4⟩ := Ky.ky_cells (HX.out.next hS.out); go_simp; (try with_reducible rfl))
  try simp only [Act.put, List.setIfInBounds_toArray, List.set_cons_zero, List.set_cons_succ]
  refine wpAnyH_take (i := 1) (oi := ⟨some 6, _, _, _, _, _⟩) (v := ?v2) rfl (by kernel_rfl) (by kernel_rfl) (by kernel_rfl) (fun _ _ _ h => h) (Or.inl ⟨rfl, ?c2⟩) hH ?r2
  case c2 => (intro w' _; go_simp; (try with_reducible rfl))
  try simp only [Act.put, List.setIfInBounds_toArray, List.set_cons_zero, List.set_cons_succ]
  refine wpAnyH_take (i := 2) (oi := ⟨some 7, _, _, _, _, _⟩) (v := ?v3) rfl (by kernel_rfl) (by kernel_rfl) (by kernel_rfl) (fun _ _ _ h => h) (Or.inl ⟨rfl, ?c3⟩) hH ?r3
  case c3 => (intro w' _; go_simp; (try with_reducible rfl))
  try simp only [Act.put, List.setIfInBounds_toArray, List.set_cons_zero, List.set_cons_succ]
  refine wpAnyH_take (i := 3) (oi := ⟨some 8, _, _, _, _, _⟩) (v := ?v4) rfl (by kernel_rfl) (by kernel_rfl) (by kernel_rfl) (fun _ _ _ h => h) (Or.inl ⟨rfl, ?c4⟩) hH ?r4
  case c4 => (intro w' _; go_simp; (try with_reducible rfl))
  try simp only [Act.put, List.setIfInBounds_toArray, List.set_cons_zero, List.set_cons_succ]
  refine wpAnyH_take (i := 4) (oi := ⟨some 9, _, _, _, _, _⟩) (v := ?v5) rfl (by kernel_rfl) (by kernel_rfl) (by kernel_rfl) (fun _ _ _ h => h) (Or.inl ⟨rfl, ?c5⟩) hH ?r5
  case c5 => (intro w' hS; have c1 := (HRU.out.next hS.out).blk.cell 1 _ rfl; go_simp; (try with_reducible rfl))
  try simp only [Act.put, List.setIfInBounds_toArray, List.set_cons_zero, List.set_cons_succ]
  refine wpAnyH_ready (rs := [5]) (by kernel_rfl) (by simp) (AllReadyH.cons rfl (fun K hK => ?_) (AllReadyH.nil))
  go_simp
  go_at_call 28
  refine (HST.out _).mono ?_
  rintro e w2 ⟨rfl, hbp⟩
  refine hK.out _ _ (Lib.hid (hH.out.trans (hbp.mono hH.out.size))) (fun hH => ?_)
  clear hK K
  clear hbp
  try simp only [Act.put, List.setIfInBounds_toArray, List.set_cons_zero, List.set_cons_succ]
  refine wpAnyH_take (i := 6) (oi := ⟨some 4, _, _, _, _, _⟩) (v := ?v6) rfl (by kernel_rfl) (by kernel_rfl) (by kernel_rfl) (fun _ _ _ h => h) (Or.inl ⟨rfl, ?c6⟩) hH ?r6
  case c6 => (intro w' _; go_simp; (try with_reducible rfl))
  try simp only [Act.put, List.setIfInBounds_toArray, List.set_cons_zero, List.set_cons_succ]
  refine wpAnyH_done (by kernel_rfl) ?_ _
  have HB2 := Lib.hid (HB.out.trans (hH.out.mono HB.out.size))
  clear hH
  go_wp2_with fail
  go_ret
  exact ⟨rfl, HB2.out⟩
/-- What may answers. -/
def mayV (ms : Ms) (n : Nat) (t i : Int) : Int := if i < 0 ∨ (n : Int) ≤ i then 1 else if heldB ms t i then 0 else 13
theorem may_any (H : RM w Om Ot mb B ms n fs W) (t i : Int) : Calls Try.prog 38 #[ptr B, .int .i64 t, .int .i64 i] W fun e w' => e = .returned (.int .i64 (mayV ms n t i)) ∧ W = w' := by
  have HH := Lib.hid (Me.refHolder_any H.mem i)
  obtain ⟨⟨vf, hru⟩, _⟩ := H.tab
  have c0 := hru.blk.cell 0 _ rfl
  have c1 := hru.blk.cell 1 _ rfl
  obtain ⟨hv, hhv⟩ : ∃ v, holdV ms i = v := ⟨_, rfl⟩
  rw [hhv] at HH
  unfold mayV heldB
  rw [hhv]
  clear H hru hhv
  by_cases h0 : i < 0
  · rw [if_pos (.inl h0)]
    have d0 : decide (i < 0) = true := decide_eq_true h0
    clear h0
    go_enter Try.func38, Try.ntmps38
    go_wp2_with fail
    go_ret
    exact ⟨rfl, rfl⟩
  · have d0 : decide (i < 0) = false := decide_eq_false h0
    by_cases h1 : (n : Int) ≤ i
    · rw [if_pos (.inr h1)]
      have d1 : decide ((n : Int) ≤ i) = true := decide_eq_true h1
      clear h0 h1
      go_enter Try.func38, Try.ntmps38
      go_wp2_with fail
      go_ret
      exact ⟨rfl, rfl⟩
    · rw [if_neg (fun e => e.elim h0 h1)]
      have d1 : decide ((n : Int) ≤ i) = false := decide_eq_false h1
      clear h0 h1
      by_cases h : 0 ≤ t
      · rw [decide_eq_true h, Bool.true_and]
        have d2 : decide (t < 0) = false := decide_eq_false (by omega)
        clear h
        cases hb : (hv == t) with
        | true =>
          have d3 : (hv != t) = false := by simp only [bne, hb]; rfl
          go_enter Try.func38, Try.ntmps38
          go_wp2_with fail
          go_at_call 52
          refine HH.out.mono ?_
          rintro e w' ⟨rfl, rfl⟩
          go_wp2_with fail
          go_ret
          exact ⟨rfl, rfl⟩
        | false =>
          have d3 : (hv != t) = true := by simp only [bne, hb]; rfl
          go_enter Try.func38, Try.ntmps38
          go_wp2_with fail
          go_at_call 52
          refine HH.out.mono ?_
          rintro e w' ⟨rfl, rfl⟩
          go_wp2_with fail
          go_ret
          exact ⟨rfl, rfl⟩
      · rw [decide_eq_false h, Bool.false_and]
        have d2 : decide (t < 0) = true := decide_eq_true (by omega)
        clear h
        go_enter Try.func38, Try.ntmps38
        go_wp2_with fail
        go_ret
        exact ⟨rfl, rfl⟩
set_option maxHeartbeats 4000000 in
theorem place_any (H : RM w Om Ot mb B ms n fs W) (k : AutM.Ke) (hk : k.Ok) (hl : fs.length ≤ 100000) (r : Nat) (hr : rank k fs = r) (b : Bool) (hb : (find k fs).isSome = b) : Calls Try.prog 41 #[ptr B, Au.kyV k] W fun e w' => e = .returned (.tuple #[.int .i64 (r : Int), .bool b]) ∧ Below W.heap.size W w' := by
  have HX := Lib.hid (Blk.box W (Ky.kyc k.a k.b k.p k.q k.r) 37)
  have HB := Lib.hid (below_box W (.cells (Ky.kyc k.a k.b k.p k.q k.r) 37))
  have HOK := Lib.hid H.tab.2.1
  obtain ⟨⟨vf, hru⟩, _⟩ := H.tab
  obtain ⟨A, c, rfl, hlc, hcm⟩ := hru.len
  have HRU := Lib.hid (hru.next (below_box W (.cells (Ky.kyc k.a k.b k.p k.q k.r) 37)))
  obtain ⟨L, hL⟩ : ∃ L, fs.length = L := ⟨_, rfl⟩
  rw [hL] at HRU hlc hl
  have HLE := Lib.hid hL
  have HKO := Lib.hid hk
  have HRK := Lib.hid hr
  have HFB := Lib.hid hb
  clear H hk hru hL hr hb
  go_enter Try.func41, Try.ntmps41
  go_wp2_with fail
  obtain ⟨w1, hW1⟩ : ∃ v, W.alloc (.cells (Ky.kyc k.a k.b k.p k.q k.r) 37) = v := ⟨_, rfl⟩
  rw [hW1] at HX HB HRU ⊢
  clear hW1
  go_loopw [6] (fun vi wr => ∃ j : Nat, vi = .int .i64 (j : Int) ∧ j ≤ L ∧ Hid (Below w1.heap.size w1 wr) ∧ Hid (∀ i f, i < j → fs[i]? = some f → f.k.num < k.num)) (fun vi _ => L - (RowKit.intOf vi).toNat)
  case atStart => exact ⟨0, rfl, Nat.zero_le _, Lib.hid (Below.refl _ _), (show Hid _ from fun i f hi => absurd hi (by omega))⟩
  case round =>
    obtain ⟨j, rfl, hj, HBL, HLT⟩ := hrel
    by_cases h1 : j < L
    · have D1 : Hid (decide (j < L) = true) := decide_eq_true h1
      have D2 : Hid (decide ((j : Int) < (L : Int)) = true) := decide_eq_true (by omega)
      obtain ⟨f, hf⟩ : ∃ f, fs[j]? = some f := ⟨_, List.getElem?_eq_getElem (by rw [HLE.out]; exact h1)⟩
      obtain ⟨gf, c', ev, -⟩ := HRU.out.flow hf
      injection ev with ev e2 e3
      clear e2 e3
      subst ev
      have HFI := Lib.hid hf
      have hfo := (HOK.out.ok f (List.mem_of_getElem? hf)).k
      by_cases hlt : f.k.num < k.num
      · have HLS : Hid (∀ W, Calls Try.prog 53 #[.agg (Ky.kyc f.k.a f.k.b f.k.p f.k.q f.k.r), .agg (Ky.kyc k.a k.b k.p k.q k.r)] W fun e w' => e = .returned (.bool true) ∧ Below W.heap.size W w') := fun W => Ky.refLess_any _ _ _ _ _ _ _ _ _ _ hfo.a hfo.b hfo.p hfo.q HKO.out.a HKO.out.b HKO.out.p HKO.out.q true (less_true hfo HKO.out hlt) W
        have HLT2 : Hid (∀ i g, i < j + 1 → fs[i]? = some g → g.k.num < k.num) := by
          show ∀ i g, _
          intro i g hi hg
          by_cases e : i = j
          · rw [e] at hg; obtain rfl := Option.some.inj (HFI.out.symm.trans hg); exact hlt
          · exact HLT.out i g (by omega) hg
        clear hf hlt hfo
        go_wp2_with fail
        refine wp_region_held_drew (S := fun w' => Hid (Below w1.heap.size w1 w')) (by kernel_rfl) (Lib.hid HBL.out.drew) (fun hH => ?_)
        refine wpAnyH_take (i := 0) (oi := ⟨some 7, _, _, _, _, _⟩) (v := ?v1) rfl (by kernel_rfl) (by kernel_rfl) (by kernel_rfl) (fun _ _ _ h => h) (Or.inl ⟨rfl, ?c1⟩) hH ?r1
        case c1 => (intro w' _; go_simp; (try with_reducible rfl))
        try simp only [Act.put, List.setIfInBounds_toArray, List.set_cons_zero, List.set_cons_succ]
        refine wpAnyH_take (i := 1) (oi := ⟨some 8, _, _, _, _, _⟩) (v := ?v2) rfl (by kernel_rfl) (by kernel_rfl) (by kernel_rfl) (fun _ _ _ h => h) (Or.inl ⟨rfl, ?c2⟩) hH ?r2
        case c2 => (intro w' _; go_simp; (try with_reducible rfl))
        try simp only [Act.put, List.setIfInBounds_toArray, List.set_cons_zero, List.set_cons_succ]
        refine wpAnyH_take (i := 2) (oi := ⟨some 9, _, _, _, _, _⟩) (v := ?v3) rfl (by kernel_rfl) (by kernel_rfl) (by kernel_rfl) (fun _ _ _ h => h) (Or.inl ⟨rfl, ?c3⟩) hH ?r3
        case c3 => (intro w' _; go_simp; (try with_reducible rfl))
        try simp only [Act.put, List.setIfInBounds_toArray, List.set_cons_zero, List.set_cons_succ]
        refine wpAnyH_take (i := 3) (oi := ⟨some 10, _, _, _, _, _⟩) (v := ?v4) rfl (by kernel_rfl) (by kernel_rfl) (by kernel_rfl) (fun _ _ _ h => h) (Or.inl ⟨rfl, ?c4⟩) hH ?r4
        case c4 => (intro w' _; go_simp; (try with_reducible rfl))
        try simp only [Act.put, List.setIfInBounds_toArray, List.set_cons_zero, List.set_cons_succ]
        refine wpAnyH_take (i := 4) (oi := ⟨some 11, _, _, _, _, _⟩) (v := ?v5) rfl (by kernel_rfl) (by kernel_rfl) (by kernel_rfl) (fun _ _ _ h => h) (Or.inl ⟨rfl, ?c5⟩) hH ?r5
        case c5 => (intro w' hS; have c2 := (HRU.out.next hS.out).blk.cell 2 _ rfl; go_simp; (try with_reducible rfl))
        try simp only [Act.put, List.setIfInBounds_toArray, List.set_cons_zero, List.set_cons_succ]
        refine wpAnyH_take (i := 5) (oi := ⟨some 12, _, _, _, _, _⟩) (v := ?v6) rfl (by kernel_rfl) (by kernel_rfl) (by kernel_rfl) (fun _ _ _ h => h) (Or.inl ⟨rfl, ?c6⟩) hH ?r6
        case c6 => (intro w' _; go_simp; (try with_reducible rfl))
        try simp only [Act.put, List.setIfInBounds_toArray, List.set_cons_zero, List.set_cons_succ]
        refine wpAnyH_take (i := 6) (oi := ⟨some 13, _, _, _, _, _⟩) (v := ?v7) rfl (by kernel_rfl) (by kernel_rfl) (by kernel_rfl) (fun _ _ _ h => h) (Or.inl ⟨rfl, ?c7⟩) hH ?r7
        case c7 => (intro w' _; go_simp; (try simp only [D1.out, D2.out]); (try with_reducible rfl))
        try simp only [Act.put, List.setIfInBounds_toArray, List.set_cons_zero, List.set_cons_succ]
        refine wpAnyH_take (i := 7) (oi := ⟨some 14, _, _, _, _, _⟩) (v := ?v8) rfl (by kernel_rfl) (by kernel_rfl) (by kernel_rfl) (fun _ _ _ h => h) (Or.inl ⟨rfl, ?c8⟩) hH ?r8
        case c8 => (intro w' _; go_simp; (try with_reducible rfl))
        try simp only [Act.put, List.setIfInBounds_toArray, List.set_cons_zero, List.set_cons_succ]
        refine wpAnyH_take (i := 8) (oi := ⟨some 15, _, _, _, _, _⟩) (v := ?v9) rfl (by kernel_rfl) (by kernel_rfl) (by kernel_rfl) (fun _ _ _ h => h) (Or.inl ⟨rfl, ?c9⟩) hH ?r9
        case c9 => (intro w' _; go_simp; (try with_reducible rfl))
        try simp only [Act.put, List.setIfInBounds_toArray, List.set_cons_zero, List.set_cons_succ]
        refine wpAnyH_take (i := 9) (oi := ⟨some 16, _, _, _, _, _⟩) (v := ?v10) rfl (by kernel_rfl) (by kernel_rfl) (by kernel_rfl) (fun _ _ _ h => h) (Or.inl ⟨rfl, ?c10⟩) hH ?r10
        case c10 => (intro w' _; go_simp; (try with_reducible rfl))
        try simp only [Act.put, List.setIfInBounds_toArray, List.set_cons_zero, List.set_cons_succ]
        refine wpAnyH_take (i := 10) (oi := ⟨some 17, _, _, _, _, _⟩) (v := ?v11) rfl (by kernel_rfl) (by kernel_rfl) (by kernel_rfl) (fun _ _ _ h => h) (Or.inl ⟨rfl, ?c11⟩) hH ?r11
        case c11 => (intro w' _; go_simp; (try with_reducible rfl))
        try simp only [Act.put, List.setIfInBounds_toArray, List.set_cons_zero, List.set_cons_succ]
        refine wpAnyH_take (i := 11) (oi := ⟨some 18, _, _, _, _, _⟩) (v := ?v12) rfl (by kernel_rfl) (by kernel_rfl) (by kernel_rfl) (fun _ _ _ h => h) (Or.inl ⟨rfl, ?c12⟩) hH ?r12
        case c12 => (intro w' hS; have c2 := (HRU.out.next hS.out).blk.cell 2 _ rfl; go_simp; (try with_reducible rfl))
        try simp only [Act.put, List.setIfInBounds_toArray, List.set_cons_zero, List.set_cons_succ]
        refine wpAnyH_take (i := 12) (oi := ⟨some 19, _, _, _, _, _⟩) (v := ?v13) rfl (by kernel_rfl) (by kernel_rfl) (by kernel_rfl) (fun _ _ _ h => h) (Or.inl ⟨rfl, ?c13⟩) hH ?r13
        case c13 => (intro w' _; go_simp; (try with_reducible rfl))
        try simp only [Act.put, List.setIfInBounds_toArray, List.set_cons_zero, List.set_cons_succ]
        refine wpAnyH_take (i := 13) (oi := ⟨some 20, _, _, _, _, _⟩) (v := ?v14) rfl (by kernel_rfl) (by kernel_rfl) (by kernel_rfl) (fun _ _ _ h => h) (Or.inl ⟨rfl, ?c14⟩) hH ?r14
        case c14 => (intro w' hS; have hv := h1; go_simp; (try with_reducible rfl))
        try simp only [Act.put, List.setIfInBounds_toArray, List.set_cons_zero, List.set_cons_succ]
        refine wpAnyH_take (i := 14) (oi := ⟨some 21, _, _, _, _, _⟩) (v := ?v15) rfl (by kernel_rfl) (by kernel_rfl) (by kernel_rfl) (fun _ _ _ h => h) (Or.inl ⟨rfl, ?c15⟩) hH ?r15
        case c15 => (intro w' _; go_simp; (try with_reducible rfl))
        try simp only [Act.put, List.setIfInBounds_toArray, List.set_cons_zero, List.set_cons_succ]
        refine wpAnyH_take (i := 15) (oi := ⟨some 22, _, _, _, _, _⟩) (v := ?v16) rfl (by kernel_rfl) (by kernel_rfl) (by kernel_rfl) (fun _ _ _ h => h) (Or.inl ⟨rfl, ?c16⟩) hH ?r16
        case c16 => (intro w' hS; obtain ⟨y0, y1, y2, y3, y4, -, -⟩ := (HRU.out.next hS.out).cells_ HFI.out; go_simp; (try with_reducible rfl))
        try simp only [Act.put, List.setIfInBounds_toArray, List.set_cons_zero, List.set_cons_succ]
        refine wpAnyH_take (i := 16) (oi := ⟨some 23, _, _, _, _, _⟩) (v := ?v17) rfl (by kernel_rfl) (by kernel_rfl) (by kernel_rfl) (fun _ _ _ h => h) (Or.inl ⟨rfl, ?c17⟩) hH ?r17
        case c17 => (intro w' hS; obtain ⟨x0, x1, x2, x3, x4⟩ := Ky.ky_cells (HX.out.next hS.out); go_simp; (try with_reducible rfl))
        try simp only [Act.put, List.setIfInBounds_toArray, List.set_cons_zero, List.set_cons_succ]
        refine wpAnyH_ready (rs := [17]) (by kernel_rfl) (by simp) (AllReadyH.cons rfl (fun K hK => ?_) (AllReadyH.nil))
        go_simp
        go_at_call 53
        refine (HLS.out _).mono ?_
        rintro e w5 ⟨rfl, hbp⟩
        refine hK.out _ _ (Lib.hid (hH.out.trans (hbp.mono hH.out.size))) (fun hH => ?_)
        clear hK K
        clear hbp
        try simp only [Act.put, List.setIfInBounds_toArray, List.set_cons_zero, List.set_cons_succ]
        refine wpAnyH_take (i := 18) (oi := ⟨some 25, _, _, _, _, _⟩) (v := ?v18) rfl (by kernel_rfl) (by kernel_rfl) (by kernel_rfl) (fun _ _ _ h => h) (Or.inl ⟨rfl, ?c18⟩) hH ?r18
        case c18 => (intro w' _; go_simp; (try with_reducible rfl))
        try simp only [Act.put, List.setIfInBounds_toArray, List.set_cons_zero, List.set_cons_succ]
        refine wpAnyH_done (by kernel_rfl) ?_ _
        have HBN := hH
        clear hH
        go_wp2_with fail
        go_roundw
        case rel => exact ⟨j + 1, by go_num, by omega, HBN, HLT2⟩
        case measure => simp [RowKit.intOf]; omega
      · have HLS : Hid (∀ W, Calls Try.prog 53 #[.agg (Ky.kyc f.k.a f.k.b f.k.p f.k.q f.k.r), .agg (Ky.kyc k.a k.b k.p k.q k.r)] W fun e w' => e = .returned (.bool false) ∧ Below W.heap.size W w') := fun W => Ky.refLess_any _ _ _ _ _ _ _ _ _ _ hfo.a hfo.b hfo.p hfo.q HKO.out.a HKO.out.b HKO.out.p HKO.out.q false (less_false hfo HKO.out hlt) W
        have hrj : r = j := by rw [← HRK.out]; exact rank_is (by rw [HLE.out]; omega) HLT.out (.inr ⟨f, hf, hlt⟩)
        subst hrj
        by_cases hek : f.k = k
        · have hbt : b = true := by
            rw [← HFB.out]
            have := HOK.out.find_of (List.mem_of_getElem? hf)
            rw [hek] at this
            rw [this]; rfl
          subst hbt
          have EQ : ∀ w, (Op.equalIn 10000 37 (.agg #[.int .u32 (f.k.a : Int), .int .u32 (f.k.b : Int), .int .u16 (f.k.p : Int), .int .u16 (f.k.q : Int), .int .u8 (f.k.r : Int)]) (.agg #[.int .u32 (k.a : Int), .int .u32 (k.b : Int), .int .u16 (k.p : Int), .int .u16 (k.q : Int), .int .u8 (k.r : Int)])).run Try.prog w = .ok true w := fun w => (Ky.ky_eq _ _ _ _ _ _ _ _ _ _ w).trans (by rw [hek]; simp)
          clear hf hlt hfo hek
          go_wp2_with fail
          refine wp_region_held_drew (S := fun w' => Hid (Below w1.heap.size w1 w')) (by kernel_rfl) (Lib.hid HBL.out.drew) (fun hH => ?_)
          refine wpAnyH_take (i := 0) (oi := ⟨some 7, _, _, _, _, _⟩) (v := ?v201) rfl (by kernel_rfl) (by kernel_rfl) (by kernel_rfl) (fun _ _ _ h => h) (Or.inl ⟨rfl, ?c201⟩) hH ?r201
          case c201 => (intro w' _; go_simp; (try with_reducible rfl))
          try simp only [Act.put, List.setIfInBounds_toArray, List.set_cons_zero, List.set_cons_succ]
          refine wpAnyH_take (i := 1) (oi := ⟨some 8, _, _, _, _, _⟩) (v := ?v202) rfl (by kernel_rfl) (by kernel_rfl) (by kernel_rfl) (fun _ _ _ h => h) (Or.inl ⟨rfl, ?c202⟩) hH ?r202
          case c202 => (intro w' _; go_simp; (try with_reducible rfl))
          try simp only [Act.put, List.setIfInBounds_toArray, List.set_cons_zero, List.set_cons_succ]
          refine wpAnyH_take (i := 2) (oi := ⟨some 9, _, _, _, _, _⟩) (v := ?v203) rfl (by kernel_rfl) (by kernel_rfl) (by kernel_rfl) (fun _ _ _ h => h) (Or.inl ⟨rfl, ?c203⟩) hH ?r203
          case c203 => (intro w' _; go_simp; (try with_reducible rfl))
          try simp only [Act.put, List.setIfInBounds_toArray, List.set_cons_zero, List.set_cons_succ]
          refine wpAnyH_take (i := 3) (oi := ⟨some 10, _, _, _, _, _⟩) (v := ?v204) rfl (by kernel_rfl) (by kernel_rfl) (by kernel_rfl) (fun _ _ _ h => h) (Or.inl ⟨rfl, ?c204⟩) hH ?r204
          case c204 => (intro w' _; go_simp; (try with_reducible rfl))
          try simp only [Act.put, List.setIfInBounds_toArray, List.set_cons_zero, List.set_cons_succ]
          refine wpAnyH_take (i := 4) (oi := ⟨some 11, _, _, _, _, _⟩) (v := ?v205) rfl (by kernel_rfl) (by kernel_rfl) (by kernel_rfl) (fun _ _ _ h => h) (Or.inl ⟨rfl, ?c205⟩) hH ?r205
          case c205 => (intro w' hS; have c2 := (HRU.out.next hS.out).blk.cell 2 _ rfl; go_simp; (try with_reducible rfl))
          try simp only [Act.put, List.setIfInBounds_toArray, List.set_cons_zero, List.set_cons_succ]
          refine wpAnyH_take (i := 5) (oi := ⟨some 12, _, _, _, _, _⟩) (v := ?v206) rfl (by kernel_rfl) (by kernel_rfl) (by kernel_rfl) (fun _ _ _ h => h) (Or.inl ⟨rfl, ?c206⟩) hH ?r206
          case c206 => (intro w' _; go_simp; (try with_reducible rfl))
          try simp only [Act.put, List.setIfInBounds_toArray, List.set_cons_zero, List.set_cons_succ]
          refine wpAnyH_take (i := 6) (oi := ⟨some 13, _, _, _, _, _⟩) (v := ?v207) rfl (by kernel_rfl) (by kernel_rfl) (by kernel_rfl) (fun _ _ _ h => h) (Or.inl ⟨rfl, ?c207⟩) hH ?r207
          case c207 => (intro w' _; go_simp; (try simp only [D1.out, D2.out]); (try with_reducible rfl))
          try simp only [Act.put, List.setIfInBounds_toArray, List.set_cons_zero, List.set_cons_succ]
          refine wpAnyH_take (i := 7) (oi := ⟨some 14, _, _, _, _, _⟩) (v := ?v208) rfl (by kernel_rfl) (by kernel_rfl) (by kernel_rfl) (fun _ _ _ h => h) (Or.inl ⟨rfl, ?c208⟩) hH ?r208
          case c208 => (intro w' _; go_simp; (try with_reducible rfl))
          try simp only [Act.put, List.setIfInBounds_toArray, List.set_cons_zero, List.set_cons_succ]
          refine wpAnyH_take (i := 8) (oi := ⟨some 15, _, _, _, _, _⟩) (v := ?v209) rfl (by kernel_rfl) (by kernel_rfl) (by kernel_rfl) (fun _ _ _ h => h) (Or.inl ⟨rfl, ?c209⟩) hH ?r209
          case c209 => (intro w' _; go_simp; (try with_reducible rfl))
          try simp only [Act.put, List.setIfInBounds_toArray, List.set_cons_zero, List.set_cons_succ]
          refine wpAnyH_take (i := 9) (oi := ⟨some 16, _, _, _, _, _⟩) (v := ?v210) rfl (by kernel_rfl) (by kernel_rfl) (by kernel_rfl) (fun _ _ _ h => h) (Or.inl ⟨rfl, ?c210⟩) hH ?r210
          case c210 => (intro w' _; go_simp; (try with_reducible rfl))
          try simp only [Act.put, List.setIfInBounds_toArray, List.set_cons_zero, List.set_cons_succ]
          refine wpAnyH_take (i := 10) (oi := ⟨some 17, _, _, _, _, _⟩) (v := ?v211) rfl (by kernel_rfl) (by kernel_rfl) (by kernel_rfl) (fun _ _ _ h => h) (Or.inl ⟨rfl, ?c211⟩) hH ?r211
          case c211 => (intro w' _; go_simp; (try with_reducible rfl))
          try simp only [Act.put, List.setIfInBounds_toArray, List.set_cons_zero, List.set_cons_succ]
          refine wpAnyH_take (i := 11) (oi := ⟨some 18, _, _, _, _, _⟩) (v := ?v212) rfl (by kernel_rfl) (by kernel_rfl) (by kernel_rfl) (fun _ _ _ h => h) (Or.inl ⟨rfl, ?c212⟩) hH ?r212
          case c212 => (intro w' hS; have c2 := (HRU.out.next hS.out).blk.cell 2 _ rfl; go_simp; (try with_reducible rfl))
          try simp only [Act.put, List.setIfInBounds_toArray, List.set_cons_zero, List.set_cons_succ]
          refine wpAnyH_take (i := 12) (oi := ⟨some 19, _, _, _, _, _⟩) (v := ?v213) rfl (by kernel_rfl) (by kernel_rfl) (by kernel_rfl) (fun _ _ _ h => h) (Or.inl ⟨rfl, ?c213⟩) hH ?r213
          case c213 => (intro w' _; go_simp; (try with_reducible rfl))
          try simp only [Act.put, List.setIfInBounds_toArray, List.set_cons_zero, List.set_cons_succ]
          refine wpAnyH_take (i := 13) (oi := ⟨some 20, _, _, _, _, _⟩) (v := ?v214) rfl (by kernel_rfl) (by kernel_rfl) (by kernel_rfl) (fun _ _ _ h => h) (Or.inl ⟨rfl, ?c214⟩) hH ?r214
          case c214 => (intro w' hS; have hv := h1; go_simp; (try with_reducible rfl))
          try simp only [Act.put, List.setIfInBounds_toArray, List.set_cons_zero, List.set_cons_succ]
          refine wpAnyH_take (i := 14) (oi := ⟨some 21, _, _, _, _, _⟩) (v := ?v215) rfl (by kernel_rfl) (by kernel_rfl) (by kernel_rfl) (fun _ _ _ h => h) (Or.inl ⟨rfl, ?c215⟩) hH ?r215
          case c215 => (intro w' _; go_simp; (try with_reducible rfl))
          try simp only [Act.put, List.setIfInBounds_toArray, List.set_cons_zero, List.set_cons_succ]
          refine wpAnyH_take (i := 15) (oi := ⟨some 22, _, _, _, _, _⟩) (v := ?v216) rfl (by kernel_rfl) (by kernel_rfl) (by kernel_rfl) (fun _ _ _ h => h) (Or.inl ⟨rfl, ?c216⟩) hH ?r216
          case c216 => (intro w' hS; obtain ⟨y0, y1, y2, y3, y4, -, -⟩ := (HRU.out.next hS.out).cells_ HFI.out; go_simp; (try with_reducible rfl))
          try simp only [Act.put, List.setIfInBounds_toArray, List.set_cons_zero, List.set_cons_succ]
          refine wpAnyH_take (i := 16) (oi := ⟨some 23, _, _, _, _, _⟩) (v := ?v217) rfl (by kernel_rfl) (by kernel_rfl) (by kernel_rfl) (fun _ _ _ h => h) (Or.inl ⟨rfl, ?c217⟩) hH ?r217
          case c217 => (intro w' hS; obtain ⟨x0, x1, x2, x3, x4⟩ := Ky.ky_cells (HX.out.next hS.out); go_simp; (try with_reducible rfl))
          try simp only [Act.put, List.setIfInBounds_toArray, List.set_cons_zero, List.set_cons_succ]
          refine wpAnyH_ready (rs := [17]) (by kernel_rfl) (by simp) (AllReadyH.cons rfl (fun K hK => ?_) (AllReadyH.nil))
          go_simp
          go_at_call 53
          refine (HLS.out _).mono ?_
          rintro e w5 ⟨rfl, hbp⟩
          refine hK.out _ _ (Lib.hid (hH.out.trans (hbp.mono hH.out.size))) (fun hH => ?_)
          clear hK K
          clear hbp
          try simp only [Act.put, List.setIfInBounds_toArray, List.set_cons_zero, List.set_cons_succ]
          refine wpAnyH_take (i := 18) (oi := ⟨some 25, _, _, _, _, _⟩) (v := ?v218) rfl (by kernel_rfl) (by kernel_rfl) (by kernel_rfl) (fun _ _ _ h => h) (Or.inl ⟨rfl, ?c218⟩) hH ?r218
          case c218 => (intro w' _; go_simp; (try with_reducible rfl))
          try simp only [Act.put, List.setIfInBounds_toArray, List.set_cons_zero, List.set_cons_succ]
          refine wpAnyH_done (by kernel_rfl) ?_ _
          have hB2 := hH
          clear hH
          go_wp2_with fail
          refine wp_region_held_drew (S := fun w' => Hid (Below w1.heap.size w1 w')) (by kernel_rfl) (Lib.hid hB2.out.drew) (fun hH => ?_)
          refine wpAnyH_take (i := 0) (oi := ⟨some 28, _, _, _, _, _⟩) (v := ?v101) rfl (by kernel_rfl) (by kernel_rfl) (by kernel_rfl) (fun _ _ _ h => h) (Or.inl ⟨rfl, ?c101⟩) hH ?r101
          case c101 => (intro w' _; go_simp; (try with_reducible rfl))
          try simp only [Act.put, List.setIfInBounds_toArray, List.set_cons_zero, List.set_cons_succ]
          refine wpAnyH_take (i := 1) (oi := ⟨some 29, _, _, _, _, _⟩) (v := ?v102) rfl (by kernel_rfl) (by kernel_rfl) (by kernel_rfl) (fun _ _ _ h => h) (Or.inl ⟨rfl, ?c102⟩) hH ?r102
          case c102 => (intro w' _; go_simp; (try with_reducible rfl))
          try simp only [Act.put, List.setIfInBounds_toArray, List.set_cons_zero, List.set_cons_succ]
          refine wpAnyH_take (i := 2) (oi := ⟨some 30, _, _, _, _, _⟩) (v := ?v103) rfl (by kernel_rfl) (by kernel_rfl) (by kernel_rfl) (fun _ _ _ h => h) (Or.inl ⟨rfl, ?c103⟩) hH ?r103
          case c103 => (intro w' _; go_simp; (try with_reducible rfl))
          try simp only [Act.put, List.setIfInBounds_toArray, List.set_cons_zero, List.set_cons_succ]
          refine wpAnyH_take (i := 3) (oi := ⟨some 31, _, _, _, _, _⟩) (v := ?v104) rfl (by kernel_rfl) (by kernel_rfl) (by kernel_rfl) (fun _ _ _ h => h) (Or.inl ⟨rfl, ?c104⟩) hH ?r104
          case c104 => (intro w' _; go_simp; (try with_reducible rfl))
          try simp only [Act.put, List.setIfInBounds_toArray, List.set_cons_zero, List.set_cons_succ]
          refine wpAnyH_take (i := 4) (oi := ⟨some 32, _, _, _, _, _⟩) (v := ?v105) rfl (by kernel_rfl) (by kernel_rfl) (by kernel_rfl) (fun _ _ _ h => h) (Or.inl ⟨rfl, ?c105⟩) hH ?r105
          case c105 => (intro w' _; go_simp; (try with_reducible rfl))
          try simp only [Act.put, List.setIfInBounds_toArray, List.set_cons_zero, List.set_cons_succ]
          refine wpAnyH_take (i := 5) (oi := ⟨some 33, _, _, _, _, _⟩) (v := ?v106) rfl (by kernel_rfl) (by kernel_rfl) (by kernel_rfl) (fun _ _ _ h => h) (Or.inl ⟨rfl, ?c106⟩) hH ?r106
          case c106 => (intro w' hS; have c2 := (HRU.out.next hS.out).blk.cell 2 _ rfl; go_simp; (try with_reducible rfl))
          try simp only [Act.put, List.setIfInBounds_toArray, List.set_cons_zero, List.set_cons_succ]
          refine wpAnyH_take (i := 6) (oi := ⟨some 34, _, _, _, _, _⟩) (v := ?v107) rfl (by kernel_rfl) (by kernel_rfl) (by kernel_rfl) (fun _ _ _ h => h) (Or.inl ⟨rfl, ?c107⟩) hH ?r107
          case c107 => (intro w' _; go_simp; (try with_reducible rfl))
          try simp only [Act.put, List.setIfInBounds_toArray, List.set_cons_zero, List.set_cons_succ]
          refine wpAnyH_take (i := 7) (oi := ⟨some 35, _, _, _, _, _⟩) (v := ?v108) rfl (by kernel_rfl) (by kernel_rfl) (by kernel_rfl) (fun _ _ _ h => h) (Or.inl ⟨rfl, ?c108⟩) hH ?r108
          case c108 => (intro w' _; go_simp; (try simp only [D1.out, D2.out]); (try with_reducible rfl))
          try simp only [Act.put, List.setIfInBounds_toArray, List.set_cons_zero, List.set_cons_succ]
          refine wpAnyH_take (i := 8) (oi := ⟨some 36, _, _, _, _, _⟩) (v := ?v109) rfl (by kernel_rfl) (by kernel_rfl) (by kernel_rfl) (fun _ _ _ h => h) (Or.inl ⟨rfl, ?c109⟩) hH ?r109
          case c109 => (intro w' _; go_simp; (try with_reducible rfl))
          try simp only [Act.put, List.setIfInBounds_toArray, List.set_cons_zero, List.set_cons_succ]
          refine wpAnyH_take (i := 9) (oi := ⟨some 37, _, _, _, _, _⟩) (v := ?v110) rfl (by kernel_rfl) (by kernel_rfl) (by kernel_rfl) (fun _ _ _ h => h) (Or.inl ⟨rfl, ?c110⟩) hH ?r110
          case c110 => (intro w' _; go_simp; (try with_reducible rfl))
          try simp only [Act.put, List.setIfInBounds_toArray, List.set_cons_zero, List.set_cons_succ]
          refine wpAnyH_take (i := 10) (oi := ⟨some 38, _, _, _, _, _⟩) (v := ?v111) rfl (by kernel_rfl) (by kernel_rfl) (by kernel_rfl) (fun _ _ _ h => h) (Or.inl ⟨rfl, ?c111⟩) hH ?r111
          case c111 => (intro w' _; go_simp; (try with_reducible rfl))
          try simp only [Act.put, List.setIfInBounds_toArray, List.set_cons_zero, List.set_cons_succ]
          refine wpAnyH_take (i := 11) (oi := ⟨some 39, _, _, _, _, _⟩) (v := ?v112) rfl (by kernel_rfl) (by kernel_rfl) (by kernel_rfl) (fun _ _ _ h => h) (Or.inl ⟨rfl, ?c112⟩) hH ?r112
          case c112 => (intro w' _; go_simp; (try with_reducible rfl))
          try simp only [Act.put, List.setIfInBounds_toArray, List.set_cons_zero, List.set_cons_succ]
          refine wpAnyH_take (i := 12) (oi := ⟨some 40, _, _, _, _, _⟩) (v := ?v113) rfl (by kernel_rfl) (by kernel_rfl) (by kernel_rfl) (fun _ _ _ h => h) (Or.inl ⟨rfl, ?c113⟩) hH ?r113
          case c113 => (intro w' hS; have c2 := (HRU.out.next hS.out).blk.cell 2 _ rfl; go_simp; (try with_reducible rfl))
          try simp only [Act.put, List.setIfInBounds_toArray, List.set_cons_zero, List.set_cons_succ]
          refine wpAnyH_take (i := 13) (oi := ⟨some 41, _, _, _, _, _⟩) (v := ?v114) rfl (by kernel_rfl) (by kernel_rfl) (by kernel_rfl) (fun _ _ _ h => h) (Or.inl ⟨rfl, ?c114⟩) hH ?r114
          case c114 => (intro w' _; go_simp; (try with_reducible rfl))
          try simp only [Act.put, List.setIfInBounds_toArray, List.set_cons_zero, List.set_cons_succ]
          refine wpAnyH_take (i := 14) (oi := ⟨some 42, _, _, _, _, _⟩) (v := ?v115) rfl (by kernel_rfl) (by kernel_rfl) (by kernel_rfl) (fun _ _ _ h => h) (Or.inl ⟨rfl, ?c115⟩) hH ?r115
          case c115 => (intro w' hS; have hv := h1; go_simp; (try with_reducible rfl))
          try simp only [Act.put, List.setIfInBounds_toArray, List.set_cons_zero, List.set_cons_succ]
          refine wpAnyH_take (i := 15) (oi := ⟨some 43, _, _, _, _, _⟩) (v := ?v116) rfl (by kernel_rfl) (by kernel_rfl) (by kernel_rfl) (fun _ _ _ h => h) (Or.inl ⟨rfl, ?c116⟩) hH ?r116
          case c116 => (intro w' _; go_simp; (try with_reducible rfl))
          try simp only [Act.put, List.setIfInBounds_toArray, List.set_cons_zero, List.set_cons_succ]
          refine wpAnyH_take (i := 16) (oi := ⟨some 44, _, _, _, _, _⟩) (v := ?v117) rfl (by kernel_rfl) (by kernel_rfl) (by kernel_rfl) (fun _ _ _ h => h) (Or.inl ⟨rfl, ?c117⟩) hH ?r117
          case c117 => (intro w' hS; obtain ⟨y0, y1, y2, y3, y4, -, -⟩ := (HRU.out.next hS.out).cells_ HFI.out; go_simp; (try with_reducible rfl))
          try simp only [Act.put, List.setIfInBounds_toArray, List.set_cons_zero, List.set_cons_succ]
          refine wpAnyH_take (i := 17) (oi := ⟨some 45, _, _, _, _, _⟩) (v := ?v118) rfl (by kernel_rfl) (by kernel_rfl) (by kernel_rfl) (fun _ _ _ h => h) (Or.inl ⟨rfl, ?c118⟩) hH ?r118
          case c118 => (intro w' hS; obtain ⟨x0, x1, x2, x3, x4⟩ := Ky.ky_cells (HX.out.next hS.out); go_simp; (try with_reducible rfl))
          try simp only [Act.put, List.setIfInBounds_toArray, List.set_cons_zero, List.set_cons_succ]
          refine wpAnyH_take (i := 18) (oi := ⟨some 46, _, _, _, _, _⟩) (v := ?v119) rfl (by kernel_rfl) (by kernel_rfl) (by kernel_rfl) (fun _ _ _ h => h) (Or.inl ⟨rfl, ?c119⟩) hH ?r119
          case c119 => (intro w' _; go_simp; (try with_reducible rfl))
          try simp only [Act.put, List.setIfInBounds_toArray, List.set_cons_zero, List.set_cons_succ]
          refine wpAnyH_take (i := 19) (oi := ⟨some 47, _, _, _, _, _⟩) (v := ?v120) rfl (by kernel_rfl) (by kernel_rfl) (by kernel_rfl) (fun _ _ _ h => h) (Or.inl ⟨rfl, ?c120⟩) hH ?r120
          case c120 => (intro w' _; go_simp; (try with_reducible rfl))
          try simp only [Act.put, List.setIfInBounds_toArray, List.set_cons_zero, List.set_cons_succ]
          refine wpAnyH_take (i := 20) (oi := ⟨some 4, _, _, _, _, _⟩) (v := ?v121) rfl (by kernel_rfl) (by kernel_rfl) (by kernel_rfl) (fun _ _ _ h => h) (Or.inl ⟨rfl, ?c121⟩) hH ?r121
          case c121 => (intro w' _; go_simp; (try with_reducible rfl))
          try simp only [Act.put, List.setIfInBounds_toArray, List.set_cons_zero, List.set_cons_succ]
          refine wpAnyH_take (i := 21) (oi := ⟨some 5, _, _, _, _, _⟩) (v := ?v122) rfl (by kernel_rfl) (by kernel_rfl) (by kernel_rfl) (fun _ _ _ h => h) (Or.inl ⟨rfl, ?c122⟩) hH ?r122
          case c122 => (intro w' _; go_simp; (try with_reducible rfl))
          try simp only [Act.put, List.setIfInBounds_toArray, List.set_cons_zero, List.set_cons_succ]
          refine wpAnyH_done (by kernel_rfl) ?_ _
          have HBE := Lib.hid (HB.out.trans (hH.out.mono HB.out.size))
          clear hH
          go_wp2_with fail
          go_ret2
          exact ⟨rfl, HBE.out⟩
        · have hbt : b = false := by
            rw [← HFB.out]
            cases hq : find k fs with
            | none => rfl
            | some g =>
              have h5 := find_rank HOK.out hq
              rw [HRK.out, hf] at h5
              injection h5 with h5
              exact absurd (by rw [h5]; exact (find_some hq).2) hek
          subst hbt
          have EQ : ∀ w, (Op.equalIn 10000 37 (.agg #[.int .u32 (f.k.a : Int), .int .u32 (f.k.b : Int), .int .u16 (f.k.p : Int), .int .u16 (f.k.q : Int), .int .u8 (f.k.r : Int)]) (.agg #[.int .u32 (k.a : Int), .int .u32 (k.b : Int), .int .u16 (k.p : Int), .int .u16 (k.q : Int), .int .u8 (k.r : Int)])).run Try.prog w = .ok false w := fun w => (Ky.ky_eq _ _ _ _ _ _ _ _ _ _ w).trans (by rw [decide_eq_false (fun e => hek (AutM.Ke.ext' (by omega)))])
          clear hf hlt hfo hek
          go_wp2_with fail
          refine wp_region_held_drew (S := fun w' => Hid (Below w1.heap.size w1 w')) (by kernel_rfl) (Lib.hid HBL.out.drew) (fun hH => ?_)
          refine wpAnyH_take (i := 0) (oi := ⟨some 7, _, _, _, _, _⟩) (v := ?v401) rfl (by kernel_rfl) (by kernel_rfl) (by kernel_rfl) (fun _ _ _ h => h) (Or.inl ⟨rfl, ?c401⟩) hH ?r401
          case c401 => (intro w' _; go_simp; (try with_reducible rfl))
          try simp only [Act.put, List.setIfInBounds_toArray, List.set_cons_zero, List.set_cons_succ]
          refine wpAnyH_take (i := 1) (oi := ⟨some 8, _, _, _, _, _⟩) (v := ?v402) rfl (by kernel_rfl) (by kernel_rfl) (by kernel_rfl) (fun _ _ _ h => h) (Or.inl ⟨rfl, ?c402⟩) hH ?r402
          case c402 => (intro w' _; go_simp; (try with_reducible rfl))
          try simp only [Act.put, List.setIfInBounds_toArray, List.set_cons_zero, List.set_cons_succ]
          refine wpAnyH_take (i := 2) (oi := ⟨some 9, _, _, _, _, _⟩) (v := ?v403) rfl (by kernel_rfl) (by kernel_rfl) (by kernel_rfl) (fun _ _ _ h => h) (Or.inl ⟨rfl, ?c403⟩) hH ?r403
          case c403 => (intro w' _; go_simp; (try with_reducible rfl))
          try simp only [Act.put, List.setIfInBounds_toArray, List.set_cons_zero, List.set_cons_succ]
          refine wpAnyH_take (i := 3) (oi := ⟨some 10, _, _, _, _, _⟩) (v := ?v404) rfl (by kernel_rfl) (by kernel_rfl) (by kernel_rfl) (fun _ _ _ h => h) (Or.inl ⟨rfl, ?c404⟩) hH ?r404
          case c404 => (intro w' _; go_simp; (try with_reducible rfl))
          try simp only [Act.put, List.setIfInBounds_toArray, List.set_cons_zero, List.set_cons_succ]
          refine wpAnyH_take (i := 4) (oi := ⟨some 11, _, _, _, _, _⟩) (v := ?v405) rfl (by kernel_rfl) (by kernel_rfl) (by kernel_rfl) (fun _ _ _ h => h) (Or.inl ⟨rfl, ?c405⟩) hH ?r405
          case c405 => (intro w' hS; have c2 := (HRU.out.next hS.out).blk.cell 2 _ rfl; go_simp; (try with_reducible rfl))
          try simp only [Act.put, List.setIfInBounds_toArray, List.set_cons_zero, List.set_cons_succ]
          refine wpAnyH_take (i := 5) (oi := ⟨some 12, _, _, _, _, _⟩) (v := ?v406) rfl (by kernel_rfl) (by kernel_rfl) (by kernel_rfl) (fun _ _ _ h => h) (Or.inl ⟨rfl, ?c406⟩) hH ?r406
          case c406 => (intro w' _; go_simp; (try with_reducible rfl))
          try simp only [Act.put, List.setIfInBounds_toArray, List.set_cons_zero, List.set_cons_succ]
          refine wpAnyH_take (i := 6) (oi := ⟨some 13, _, _, _, _, _⟩) (v := ?v407) rfl (by kernel_rfl) (by kernel_rfl) (by kernel_rfl) (fun _ _ _ h => h) (Or.inl ⟨rfl, ?c407⟩) hH ?r407
          case c407 => (intro w' _; go_simp; (try simp only [D1.out, D2.out]); (try with_reducible rfl))
          try simp only [Act.put, List.setIfInBounds_toArray, List.set_cons_zero, List.set_cons_succ]
          refine wpAnyH_take (i := 7) (oi := ⟨some 14, _, _, _, _, _⟩) (v := ?v408) rfl (by kernel_rfl) (by kernel_rfl) (by kernel_rfl) (fun _ _ _ h => h) (Or.inl ⟨rfl, ?c408⟩) hH ?r408
          case c408 => (intro w' _; go_simp; (try with_reducible rfl))
          try simp only [Act.put, List.setIfInBounds_toArray, List.set_cons_zero, List.set_cons_succ]
          refine wpAnyH_take (i := 8) (oi := ⟨some 15, _, _, _, _, _⟩) (v := ?v409) rfl (by kernel_rfl) (by kernel_rfl) (by kernel_rfl) (fun _ _ _ h => h) (Or.inl ⟨rfl, ?c409⟩) hH ?r409
          case c409 => (intro w' _; go_simp; (try with_reducible rfl))
          try simp only [Act.put, List.setIfInBounds_toArray, List.set_cons_zero, List.set_cons_succ]
          refine wpAnyH_take (i := 9) (oi := ⟨some 16, _, _, _, _, _⟩) (v := ?v410) rfl (by kernel_rfl) (by kernel_rfl) (by kernel_rfl) (fun _ _ _ h => h) (Or.inl ⟨rfl, ?c410⟩) hH ?r410
          case c410 => (intro w' _; go_simp; (try with_reducible rfl))
          try simp only [Act.put, List.setIfInBounds_toArray, List.set_cons_zero, List.set_cons_succ]
          refine wpAnyH_take (i := 10) (oi := ⟨some 17, _, _, _, _, _⟩) (v := ?v411) rfl (by kernel_rfl) (by kernel_rfl) (by kernel_rfl) (fun _ _ _ h => h) (Or.inl ⟨rfl, ?c411⟩) hH ?r411
          case c411 => (intro w' _; go_simp; (try with_reducible rfl))
          try simp only [Act.put, List.setIfInBounds_toArray, List.set_cons_zero, List.set_cons_succ]
          refine wpAnyH_take (i := 11) (oi := ⟨some 18, _, _, _, _, _⟩) (v := ?v412) rfl (by kernel_rfl) (by kernel_rfl) (by kernel_rfl) (fun _ _ _ h => h) (Or.inl ⟨rfl, ?c412⟩) hH ?r412
          case c412 => (intro w' hS; have c2 := (HRU.out.next hS.out).blk.cell 2 _ rfl; go_simp; (try with_reducible rfl))
          try simp only [Act.put, List.setIfInBounds_toArray, List.set_cons_zero, List.set_cons_succ]
          refine wpAnyH_take (i := 12) (oi := ⟨some 19, _, _, _, _, _⟩) (v := ?v413) rfl (by kernel_rfl) (by kernel_rfl) (by kernel_rfl) (fun _ _ _ h => h) (Or.inl ⟨rfl, ?c413⟩) hH ?r413
          case c413 => (intro w' _; go_simp; (try with_reducible rfl))
          try simp only [Act.put, List.setIfInBounds_toArray, List.set_cons_zero, List.set_cons_succ]
          refine wpAnyH_take (i := 13) (oi := ⟨some 20, _, _, _, _, _⟩) (v := ?v414) rfl (by kernel_rfl) (by kernel_rfl) (by kernel_rfl) (fun _ _ _ h => h) (Or.inl ⟨rfl, ?c414⟩) hH ?r414
          case c414 => (intro w' hS; have hv := h1; go_simp; (try with_reducible rfl))
          try simp only [Act.put, List.setIfInBounds_toArray, List.set_cons_zero, List.set_cons_succ]
          refine wpAnyH_take (i := 14) (oi := ⟨some 21, _, _, _, _, _⟩) (v := ?v415) rfl (by kernel_rfl) (by kernel_rfl) (by kernel_rfl) (fun _ _ _ h => h) (Or.inl ⟨rfl, ?c415⟩) hH ?r415
          case c415 => (intro w' _; go_simp; (try with_reducible rfl))
          try simp only [Act.put, List.setIfInBounds_toArray, List.set_cons_zero, List.set_cons_succ]
          refine wpAnyH_take (i := 15) (oi := ⟨some 22, _, _, _, _, _⟩) (v := ?v416) rfl (by kernel_rfl) (by kernel_rfl) (by kernel_rfl) (fun _ _ _ h => h) (Or.inl ⟨rfl, ?c416⟩) hH ?r416
          case c416 => (intro w' hS; obtain ⟨y0, y1, y2, y3, y4, -, -⟩ := (HRU.out.next hS.out).cells_ HFI.out; go_simp; (try with_reducible rfl))
          try simp only [Act.put, List.setIfInBounds_toArray, List.set_cons_zero, List.set_cons_succ]
          refine wpAnyH_take (i := 16) (oi := ⟨some 23, _, _, _, _, _⟩) (v := ?v417) rfl (by kernel_rfl) (by kernel_rfl) (by kernel_rfl) (fun _ _ _ h => h) (Or.inl ⟨rfl, ?c417⟩) hH ?r417
          case c417 => (intro w' hS; obtain ⟨x0, x1, x2, x3, x4⟩ := Ky.ky_cells (HX.out.next hS.out); go_simp; (try with_reducible rfl))
          try simp only [Act.put, List.setIfInBounds_toArray, List.set_cons_zero, List.set_cons_succ]
          refine wpAnyH_ready (rs := [17]) (by kernel_rfl) (by simp) (AllReadyH.cons rfl (fun K hK => ?_) (AllReadyH.nil))
          go_simp
          go_at_call 53
          refine (HLS.out _).mono ?_
          rintro e w5 ⟨rfl, hbp⟩
          refine hK.out _ _ (Lib.hid (hH.out.trans (hbp.mono hH.out.size))) (fun hH => ?_)
          clear hK K
          clear hbp
          try simp only [Act.put, List.setIfInBounds_toArray, List.set_cons_zero, List.set_cons_succ]
          refine wpAnyH_take (i := 18) (oi := ⟨some 25, _, _, _, _, _⟩) (v := ?v418) rfl (by kernel_rfl) (by kernel_rfl) (by kernel_rfl) (fun _ _ _ h => h) (Or.inl ⟨rfl, ?c418⟩) hH ?r418
          case c418 => (intro w' _; go_simp; (try with_reducible rfl))
          try simp only [Act.put, List.setIfInBounds_toArray, List.set_cons_zero, List.set_cons_succ]
          refine wpAnyH_done (by kernel_rfl) ?_ _
          have hB2 := hH
          clear hH
          go_wp2_with fail
          refine wp_region_held_drew (S := fun w' => Hid (Below w1.heap.size w1 w')) (by kernel_rfl) (Lib.hid hB2.out.drew) (fun hH => ?_)
          refine wpAnyH_take (i := 0) (oi := ⟨some 28, _, _, _, _, _⟩) (v := ?v301) rfl (by kernel_rfl) (by kernel_rfl) (by kernel_rfl) (fun _ _ _ h => h) (Or.inl ⟨rfl, ?c301⟩) hH ?r301
          case c301 => (intro w' _; go_simp; (try with_reducible rfl))
          try simp only [Act.put, List.setIfInBounds_toArray, List.set_cons_zero, List.set_cons_succ]
          refine wpAnyH_take (i := 1) (oi := ⟨some 29, _, _, _, _, _⟩) (v := ?v302) rfl (by kernel_rfl) (by kernel_rfl) (by kernel_rfl) (fun _ _ _ h => h) (Or.inl ⟨rfl, ?c302⟩) hH ?r302
          case c302 => (intro w' _; go_simp; (try with_reducible rfl))
          try simp only [Act.put, List.setIfInBounds_toArray, List.set_cons_zero, List.set_cons_succ]
          refine wpAnyH_take (i := 2) (oi := ⟨some 30, _, _, _, _, _⟩) (v := ?v303) rfl (by kernel_rfl) (by kernel_rfl) (by kernel_rfl) (fun _ _ _ h => h) (Or.inl ⟨rfl, ?c303⟩) hH ?r303
          case c303 => (intro w' _; go_simp; (try with_reducible rfl))
          try simp only [Act.put, List.setIfInBounds_toArray, List.set_cons_zero, List.set_cons_succ]
          refine wpAnyH_take (i := 3) (oi := ⟨some 31, _, _, _, _, _⟩) (v := ?v304) rfl (by kernel_rfl) (by kernel_rfl) (by kernel_rfl) (fun _ _ _ h => h) (Or.inl ⟨rfl, ?c304⟩) hH ?r304
          case c304 => (intro w' _; go_simp; (try with_reducible rfl))
          try simp only [Act.put, List.setIfInBounds_toArray, List.set_cons_zero, List.set_cons_succ]
          refine wpAnyH_take (i := 4) (oi := ⟨some 32, _, _, _, _, _⟩) (v := ?v305) rfl (by kernel_rfl) (by kernel_rfl) (by kernel_rfl) (fun _ _ _ h => h) (Or.inl ⟨rfl, ?c305⟩) hH ?r305
          case c305 => (intro w' _; go_simp; (try with_reducible rfl))
          try simp only [Act.put, List.setIfInBounds_toArray, List.set_cons_zero, List.set_cons_succ]
          refine wpAnyH_take (i := 5) (oi := ⟨some 33, _, _, _, _, _⟩) (v := ?v306) rfl (by kernel_rfl) (by kernel_rfl) (by kernel_rfl) (fun _ _ _ h => h) (Or.inl ⟨rfl, ?c306⟩) hH ?r306
          case c306 => (intro w' hS; have c2 := (HRU.out.next hS.out).blk.cell 2 _ rfl; go_simp; (try with_reducible rfl))
          try simp only [Act.put, List.setIfInBounds_toArray, List.set_cons_zero, List.set_cons_succ]
          refine wpAnyH_take (i := 6) (oi := ⟨some 34, _, _, _, _, _⟩) (v := ?v307) rfl (by kernel_rfl) (by kernel_rfl) (by kernel_rfl) (fun _ _ _ h => h) (Or.inl ⟨rfl, ?c307⟩) hH ?r307
          case c307 => (intro w' _; go_simp; (try with_reducible rfl))
          try simp only [Act.put, List.setIfInBounds_toArray, List.set_cons_zero, List.set_cons_succ]
          refine wpAnyH_take (i := 7) (oi := ⟨some 35, _, _, _, _, _⟩) (v := ?v308) rfl (by kernel_rfl) (by kernel_rfl) (by kernel_rfl) (fun _ _ _ h => h) (Or.inl ⟨rfl, ?c308⟩) hH ?r308
          case c308 => (intro w' _; go_simp; (try simp only [D1.out, D2.out]); (try with_reducible rfl))
          try simp only [Act.put, List.setIfInBounds_toArray, List.set_cons_zero, List.set_cons_succ]
          refine wpAnyH_take (i := 8) (oi := ⟨some 36, _, _, _, _, _⟩) (v := ?v309) rfl (by kernel_rfl) (by kernel_rfl) (by kernel_rfl) (fun _ _ _ h => h) (Or.inl ⟨rfl, ?c309⟩) hH ?r309
          case c309 => (intro w' _; go_simp; (try with_reducible rfl))
          try simp only [Act.put, List.setIfInBounds_toArray, List.set_cons_zero, List.set_cons_succ]
          refine wpAnyH_take (i := 9) (oi := ⟨some 37, _, _, _, _, _⟩) (v := ?v310) rfl (by kernel_rfl) (by kernel_rfl) (by kernel_rfl) (fun _ _ _ h => h) (Or.inl ⟨rfl, ?c310⟩) hH ?r310
          case c310 => (intro w' _; go_simp; (try with_reducible rfl))
          try simp only [Act.put, List.setIfInBounds_toArray, List.set_cons_zero, List.set_cons_succ]
          refine wpAnyH_take (i := 10) (oi := ⟨some 38, _, _, _, _, _⟩) (v := ?v311) rfl (by kernel_rfl) (by kernel_rfl) (by kernel_rfl) (fun _ _ _ h => h) (Or.inl ⟨rfl, ?c311⟩) hH ?r311
          case c311 => (intro w' _; go_simp; (try with_reducible rfl))
          try simp only [Act.put, List.setIfInBounds_toArray, List.set_cons_zero, List.set_cons_succ]
          refine wpAnyH_take (i := 11) (oi := ⟨some 39, _, _, _, _, _⟩) (v := ?v312) rfl (by kernel_rfl) (by kernel_rfl) (by kernel_rfl) (fun _ _ _ h => h) (Or.inl ⟨rfl, ?c312⟩) hH ?r312
          case c312 => (intro w' _; go_simp; (try with_reducible rfl))
          try simp only [Act.put, List.setIfInBounds_toArray, List.set_cons_zero, List.set_cons_succ]
          refine wpAnyH_take (i := 12) (oi := ⟨some 40, _, _, _, _, _⟩) (v := ?v313) rfl (by kernel_rfl) (by kernel_rfl) (by kernel_rfl) (fun _ _ _ h => h) (Or.inl ⟨rfl, ?c313⟩) hH ?r313
          case c313 => (intro w' hS; have c2 := (HRU.out.next hS.out).blk.cell 2 _ rfl; go_simp; (try with_reducible rfl))
          try simp only [Act.put, List.setIfInBounds_toArray, List.set_cons_zero, List.set_cons_succ]
          refine wpAnyH_take (i := 13) (oi := ⟨some 41, _, _, _, _, _⟩) (v := ?v314) rfl (by kernel_rfl) (by kernel_rfl) (by kernel_rfl) (fun _ _ _ h => h) (Or.inl ⟨rfl, ?c314⟩) hH ?r314
          case c314 => (intro w' _; go_simp; (try with_reducible rfl))
          try simp only [Act.put, List.setIfInBounds_toArray, List.set_cons_zero, List.set_cons_succ]
          refine wpAnyH_take (i := 14) (oi := ⟨some 42, _, _, _, _, _⟩) (v := ?v315) rfl (by kernel_rfl) (by kernel_rfl) (by kernel_rfl) (fun _ _ _ h => h) (Or.inl ⟨rfl, ?c315⟩) hH ?r315
          case c315 => (intro w' hS; have hv := h1; go_simp; (try with_reducible rfl))
          try simp only [Act.put, List.setIfInBounds_toArray, List.set_cons_zero, List.set_cons_succ]
          refine wpAnyH_take (i := 15) (oi := ⟨some 43, _, _, _, _, _⟩) (v := ?v316) rfl (by kernel_rfl) (by kernel_rfl) (by kernel_rfl) (fun _ _ _ h => h) (Or.inl ⟨rfl, ?c316⟩) hH ?r316
          case c316 => (intro w' _; go_simp; (try with_reducible rfl))
          try simp only [Act.put, List.setIfInBounds_toArray, List.set_cons_zero, List.set_cons_succ]
          refine wpAnyH_take (i := 16) (oi := ⟨some 44, _, _, _, _, _⟩) (v := ?v317) rfl (by kernel_rfl) (by kernel_rfl) (by kernel_rfl) (fun _ _ _ h => h) (Or.inl ⟨rfl, ?c317⟩) hH ?r317
          case c317 => (intro w' hS; obtain ⟨y0, y1, y2, y3, y4, -, -⟩ := (HRU.out.next hS.out).cells_ HFI.out; go_simp; (try with_reducible rfl))
          try simp only [Act.put, List.setIfInBounds_toArray, List.set_cons_zero, List.set_cons_succ]
          refine wpAnyH_take (i := 17) (oi := ⟨some 45, _, _, _, _, _⟩) (v := ?v318) rfl (by kernel_rfl) (by kernel_rfl) (by kernel_rfl) (fun _ _ _ h => h) (Or.inl ⟨rfl, ?c318⟩) hH ?r318
          case c318 => (intro w' hS; obtain ⟨x0, x1, x2, x3, x4⟩ := Ky.ky_cells (HX.out.next hS.out); go_simp; (try with_reducible rfl))
          try simp only [Act.put, List.setIfInBounds_toArray, List.set_cons_zero, List.set_cons_succ]
          refine wpAnyH_take (i := 18) (oi := ⟨some 46, _, _, _, _, _⟩) (v := ?v319) rfl (by kernel_rfl) (by kernel_rfl) (by kernel_rfl) (fun _ _ _ h => h) (Or.inl ⟨rfl, ?c319⟩) hH ?r319
          case c319 => (intro w' _; go_simp; (try with_reducible rfl))
          try simp only [Act.put, List.setIfInBounds_toArray, List.set_cons_zero, List.set_cons_succ]
          refine wpAnyH_take (i := 19) (oi := ⟨some 47, _, _, _, _, _⟩) (v := ?v320) rfl (by kernel_rfl) (by kernel_rfl) (by kernel_rfl) (fun _ _ _ h => h) (Or.inl ⟨rfl, ?c320⟩) hH ?r320
          case c320 => (intro w' _; go_simp; (try with_reducible rfl))
          try simp only [Act.put, List.setIfInBounds_toArray, List.set_cons_zero, List.set_cons_succ]
          refine wpAnyH_take (i := 20) (oi := ⟨some 4, _, _, _, _, _⟩) (v := ?v321) rfl (by kernel_rfl) (by kernel_rfl) (by kernel_rfl) (fun _ _ _ h => h) (Or.inl ⟨rfl, ?c321⟩) hH ?r321
          case c321 => (intro w' _; go_simp; (try with_reducible rfl))
          try simp only [Act.put, List.setIfInBounds_toArray, List.set_cons_zero, List.set_cons_succ]
          refine wpAnyH_take (i := 21) (oi := ⟨some 5, _, _, _, _, _⟩) (v := ?v322) rfl (by kernel_rfl) (by kernel_rfl) (by kernel_rfl) (fun _ _ _ h => h) (Or.inl ⟨rfl, ?c322⟩) hH ?r322
          case c322 => (intro w' _; go_simp; (try with_reducible rfl))
          try simp only [Act.put, List.setIfInBounds_toArray, List.set_cons_zero, List.set_cons_succ]
          refine wpAnyH_done (by kernel_rfl) ?_ _
          have HBE := Lib.hid (HB.out.trans (hH.out.mono HB.out.size))
          clear hH
          go_wp2_with fail
          go_ret2
          exact ⟨rfl, HBE.out⟩
    · obtain rfl : j = L := by omega
      have hrj : r = j := by rw [← HRK.out]; exact rank_is (by rw [HLE.out]; omega) HLT.out (.inl HLE.out.symm)
      subst hrj
      have hbt : b = false := by
        rw [← HFB.out]
        cases hq : find k fs with
        | none => rfl
        | some g =>
          have h5 := find_rank HOK.out hq
          rw [HRK.out, List.getElem?_eq_none (by rw [HLE.out]; exact Nat.le_refl _)] at h5
          cases h5
      subst hbt
      have D1 : Hid (decide (r < r) = false) := decide_eq_false (by omega)
      have D2 : Hid (decide ((r : Int) < (r : Int)) = false) := decide_eq_false (by omega)
      go_wp2_with fail
      refine wp_region_held_drew (S := fun w' => Hid (Below w1.heap.size w1 w')) (by kernel_rfl) (Lib.hid HBL.out.drew) (fun hH => ?_)
      refine wpAnyH_take (i := 0) (oi := ⟨some 7, _, _, _, _, _⟩) (v := ?v601) rfl (by kernel_rfl) (by kernel_rfl) (by kernel_rfl) (fun _ _ _ h => h) (Or.inl ⟨rfl, ?c601⟩) hH ?r601
      case c601 => (intro w' _; go_simp; (try with_reducible rfl))
      try simp only [Act.put, List.setIfInBounds_toArray, List.set_cons_zero, List.set_cons_succ]
      refine wpAnyH_take (i := 1) (oi := ⟨some 8, _, _, _, _, _⟩) (v := ?v602) rfl (by kernel_rfl) (by kernel_rfl) (by kernel_rfl) (fun _ _ _ h => h) (Or.inl ⟨rfl, ?c602⟩) hH ?r602
      case c602 => (intro w' _; go_simp; (try with_reducible rfl))
      try simp only [Act.put, List.setIfInBounds_toArray, List.set_cons_zero, List.set_cons_succ]
      refine wpAnyH_take (i := 2) (oi := ⟨some 9, _, _, _, _, _⟩) (v := ?v603) rfl (by kernel_rfl) (by kernel_rfl) (by kernel_rfl) (fun _ _ _ h => h) (Or.inl ⟨rfl, ?c603⟩) hH ?r603
      case c603 => (intro w' _; go_simp; (try with_reducible rfl))
      try simp only [Act.put, List.setIfInBounds_toArray, List.set_cons_zero, List.set_cons_succ]
      refine wpAnyH_take (i := 3) (oi := ⟨some 10, _, _, _, _, _⟩) (v := ?v604) rfl (by kernel_rfl) (by kernel_rfl) (by kernel_rfl) (fun _ _ _ h => h) (Or.inl ⟨rfl, ?c604⟩) hH ?r604
      case c604 => (intro w' _; go_simp; (try with_reducible rfl))
      try simp only [Act.put, List.setIfInBounds_toArray, List.set_cons_zero, List.set_cons_succ]
      refine wpAnyH_take (i := 4) (oi := ⟨some 11, _, _, _, _, _⟩) (v := ?v605) rfl (by kernel_rfl) (by kernel_rfl) (by kernel_rfl) (fun _ _ _ h => h) (Or.inl ⟨rfl, ?c605⟩) hH ?r605
      case c605 => (intro w' hS; have c2 := (HRU.out.next hS.out).blk.cell 2 _ rfl; go_simp; (try with_reducible rfl))
      try simp only [Act.put, List.setIfInBounds_toArray, List.set_cons_zero, List.set_cons_succ]
      refine wpAnyH_take (i := 5) (oi := ⟨some 12, _, _, _, _, _⟩) (v := ?v606) rfl (by kernel_rfl) (by kernel_rfl) (by kernel_rfl) (fun _ _ _ h => h) (Or.inl ⟨rfl, ?c606⟩) hH ?r606
      case c606 => (intro w' _; go_simp; (try with_reducible rfl))
      try simp only [Act.put, List.setIfInBounds_toArray, List.set_cons_zero, List.set_cons_succ]
      refine wpAnyH_take (i := 6) (oi := ⟨some 13, _, _, _, _, _⟩) (v := ?v607) rfl (by kernel_rfl) (by kernel_rfl) (by kernel_rfl) (fun _ _ _ h => h) (Or.inl ⟨rfl, ?c607⟩) hH ?r607
      case c607 => (intro w' _; go_simp; (try simp only [D1.out, D2.out]); (try with_reducible rfl))
      try simp only [Act.put, List.setIfInBounds_toArray, List.set_cons_zero, List.set_cons_succ]
      refine wpAnyH_take (i := 7) (oi := ⟨some 14, _, _, _, _, _⟩) (v := ?v608) rfl (by kernel_rfl) (by kernel_rfl) (by kernel_rfl) (fun _ _ _ h => h) (Or.inl ⟨rfl, ?c608⟩) hH ?r608
      case c608 => (intro w' _; go_simp; (try with_reducible rfl))
      try simp only [Act.put, List.setIfInBounds_toArray, List.set_cons_zero, List.set_cons_succ]
      refine wpAnyH_take (i := 8) (oi := ⟨some 15, _, _, _, _, _⟩) (v := undef) rfl (by kernel_rfl) (by kernel_rfl) (by kernel_rfl) (fun _ _ _ h => h) (Or.inr ⟨rfl, rfl⟩) hH ?_
      try simp only [Act.put, List.setIfInBounds_toArray, List.set_cons_zero, List.set_cons_succ]
      refine wpAnyH_take (i := 9) (oi := ⟨some 16, _, _, _, _, _⟩) (v := undef) rfl (by kernel_rfl) (by kernel_rfl) (by kernel_rfl) (fun _ _ _ h => h) (Or.inr ⟨rfl, rfl⟩) hH ?_
      try simp only [Act.put, List.setIfInBounds_toArray, List.set_cons_zero, List.set_cons_succ]
      refine wpAnyH_take (i := 10) (oi := ⟨some 17, _, _, _, _, _⟩) (v := undef) rfl (by kernel_rfl) (by kernel_rfl) (by kernel_rfl) (fun _ _ _ h => h) (Or.inr ⟨rfl, rfl⟩) hH ?_
      try simp only [Act.put, List.setIfInBounds_toArray, List.set_cons_zero, List.set_cons_succ]
      refine wpAnyH_take (i := 11) (oi := ⟨some 18, _, _, _, _, _⟩) (v := undef) rfl (by kernel_rfl) (by kernel_rfl) (by kernel_rfl) (fun _ _ _ h => h) (Or.inr ⟨rfl, rfl⟩) hH ?_
      try simp only [Act.put, List.setIfInBounds_toArray, List.set_cons_zero, List.set_cons_succ]
      refine wpAnyH_take (i := 12) (oi := ⟨some 19, _, _, _, _, _⟩) (v := undef) rfl (by kernel_rfl) (by kernel_rfl) (by kernel_rfl) (fun _ _ _ h => h) (Or.inr ⟨rfl, rfl⟩) hH ?_
      try simp only [Act.put, List.setIfInBounds_toArray, List.set_cons_zero, List.set_cons_succ]
      refine wpAnyH_take (i := 13) (oi := ⟨some 20, _, _, _, _, _⟩) (v := undef) rfl (by kernel_rfl) (by kernel_rfl) (by kernel_rfl) (fun _ _ _ h => h) (Or.inr ⟨rfl, rfl⟩) hH ?_
      try simp only [Act.put, List.setIfInBounds_toArray, List.set_cons_zero, List.set_cons_succ]
      refine wpAnyH_take (i := 14) (oi := ⟨some 21, _, _, _, _, _⟩) (v := undef) rfl (by kernel_rfl) (by kernel_rfl) (by kernel_rfl) (fun _ _ _ h => h) (Or.inr ⟨rfl, rfl⟩) hH ?_
      try simp only [Act.put, List.setIfInBounds_toArray, List.set_cons_zero, List.set_cons_succ]
      refine wpAnyH_take (i := 15) (oi := ⟨some 22, _, _, _, _, _⟩) (v := undef) rfl (by kernel_rfl) (by kernel_rfl) (by kernel_rfl) (fun _ _ _ h => h) (Or.inr ⟨rfl, rfl⟩) hH ?_
      try simp only [Act.put, List.setIfInBounds_toArray, List.set_cons_zero, List.set_cons_succ]
      refine wpAnyH_take (i := 16) (oi := ⟨some 23, _, _, _, _, _⟩) (v := undef) rfl (by kernel_rfl) (by kernel_rfl) (by kernel_rfl) (fun _ _ _ h => h) (Or.inr ⟨rfl, rfl⟩) hH ?_
      try simp only [Act.put, List.setIfInBounds_toArray, List.set_cons_zero, List.set_cons_succ]
      refine wpAnyH_take (i := 17) (oi := ⟨some 24, _, _, _, _, _⟩) (v := undef) rfl (by kernel_rfl) (by kernel_rfl) (by kernel_rfl) (fun _ _ _ h => h) (Or.inr ⟨rfl, rfl⟩) hH ?_
      try simp only [Act.put, List.setIfInBounds_toArray, List.set_cons_zero, List.set_cons_succ]
      refine wpAnyH_take (i := 18) (oi := ⟨some 25, _, _, _, _, _⟩) (v := ?v619) rfl (by kernel_rfl) (by kernel_rfl) (by kernel_rfl) (fun _ _ _ h => h) (Or.inl ⟨rfl, ?c619⟩) hH ?r619
      case c619 => (intro w' _; go_simp; (try with_reducible rfl))
      try simp only [Act.put, List.setIfInBounds_toArray, List.set_cons_zero, List.set_cons_succ]
      refine wpAnyH_done (by kernel_rfl) ?_ _
      have hB2 := hH
      clear hH
      go_wp2_with fail
      refine wp_region_held_drew (S := fun w' => Hid (Below w1.heap.size w1 w')) (by kernel_rfl) (Lib.hid hB2.out.drew) (fun hH => ?_)
      refine wpAnyH_take (i := 0) (oi := ⟨some 28, _, _, _, _, _⟩) (v := ?v501) rfl (by kernel_rfl) (by kernel_rfl) (by kernel_rfl) (fun _ _ _ h => h) (Or.inl ⟨rfl, ?c501⟩) hH ?r501
      case c501 => (intro w' _; go_simp; (try with_reducible rfl))
      try simp only [Act.put, List.setIfInBounds_toArray, List.set_cons_zero, List.set_cons_succ]
      refine wpAnyH_take (i := 1) (oi := ⟨some 29, _, _, _, _, _⟩) (v := ?v502) rfl (by kernel_rfl) (by kernel_rfl) (by kernel_rfl) (fun _ _ _ h => h) (Or.inl ⟨rfl, ?c502⟩) hH ?r502
      case c502 => (intro w' _; go_simp; (try with_reducible rfl))
      try simp only [Act.put, List.setIfInBounds_toArray, List.set_cons_zero, List.set_cons_succ]
      refine wpAnyH_take (i := 2) (oi := ⟨some 30, _, _, _, _, _⟩) (v := ?v503) rfl (by kernel_rfl) (by kernel_rfl) (by kernel_rfl) (fun _ _ _ h => h) (Or.inl ⟨rfl, ?c503⟩) hH ?r503
      case c503 => (intro w' _; go_simp; (try with_reducible rfl))
      try simp only [Act.put, List.setIfInBounds_toArray, List.set_cons_zero, List.set_cons_succ]
      refine wpAnyH_take (i := 3) (oi := ⟨some 31, _, _, _, _, _⟩) (v := ?v504) rfl (by kernel_rfl) (by kernel_rfl) (by kernel_rfl) (fun _ _ _ h => h) (Or.inl ⟨rfl, ?c504⟩) hH ?r504
      case c504 => (intro w' _; go_simp; (try with_reducible rfl))
      try simp only [Act.put, List.setIfInBounds_toArray, List.set_cons_zero, List.set_cons_succ]
      refine wpAnyH_take (i := 4) (oi := ⟨some 32, _, _, _, _, _⟩) (v := ?v505) rfl (by kernel_rfl) (by kernel_rfl) (by kernel_rfl) (fun _ _ _ h => h) (Or.inl ⟨rfl, ?c505⟩) hH ?r505
      case c505 => (intro w' _; go_simp; (try with_reducible rfl))
      try simp only [Act.put, List.setIfInBounds_toArray, List.set_cons_zero, List.set_cons_succ]
      refine wpAnyH_take (i := 5) (oi := ⟨some 33, _, _, _, _, _⟩) (v := ?v506) rfl (by kernel_rfl) (by kernel_rfl) (by kernel_rfl) (fun _ _ _ h => h) (Or.inl ⟨rfl, ?c506⟩) hH ?r506
      case c506 => (intro w' hS; have c2 := (HRU.out.next hS.out).blk.cell 2 _ rfl; go_simp; (try with_reducible rfl))
      try simp only [Act.put, List.setIfInBounds_toArray, List.set_cons_zero, List.set_cons_succ]
      refine wpAnyH_take (i := 6) (oi := ⟨some 34, _, _, _, _, _⟩) (v := ?v507) rfl (by kernel_rfl) (by kernel_rfl) (by kernel_rfl) (fun _ _ _ h => h) (Or.inl ⟨rfl, ?c507⟩) hH ?r507
      case c507 => (intro w' _; go_simp; (try with_reducible rfl))
      try simp only [Act.put, List.setIfInBounds_toArray, List.set_cons_zero, List.set_cons_succ]
      refine wpAnyH_take (i := 7) (oi := ⟨some 35, _, _, _, _, _⟩) (v := ?v508) rfl (by kernel_rfl) (by kernel_rfl) (by kernel_rfl) (fun _ _ _ h => h) (Or.inl ⟨rfl, ?c508⟩) hH ?r508
      case c508 => (intro w' _; go_simp; (try simp only [D1.out, D2.out]); (try with_reducible rfl))
      try simp only [Act.put, List.setIfInBounds_toArray, List.set_cons_zero, List.set_cons_succ]
      refine wpAnyH_take (i := 8) (oi := ⟨some 36, _, _, _, _, _⟩) (v := ?v509) rfl (by kernel_rfl) (by kernel_rfl) (by kernel_rfl) (fun _ _ _ h => h) (Or.inl ⟨rfl, ?c509⟩) hH ?r509
      case c509 => (intro w' _; go_simp; (try with_reducible rfl))
      try simp only [Act.put, List.setIfInBounds_toArray, List.set_cons_zero, List.set_cons_succ]
      refine wpAnyH_take (i := 9) (oi := ⟨some 37, _, _, _, _, _⟩) (v := undef) rfl (by kernel_rfl) (by kernel_rfl) (by kernel_rfl) (fun _ _ _ h => h) (Or.inr ⟨rfl, rfl⟩) hH ?_
      try simp only [Act.put, List.setIfInBounds_toArray, List.set_cons_zero, List.set_cons_succ]
      refine wpAnyH_take (i := 10) (oi := ⟨some 38, _, _, _, _, _⟩) (v := undef) rfl (by kernel_rfl) (by kernel_rfl) (by kernel_rfl) (fun _ _ _ h => h) (Or.inr ⟨rfl, rfl⟩) hH ?_
      try simp only [Act.put, List.setIfInBounds_toArray, List.set_cons_zero, List.set_cons_succ]
      refine wpAnyH_take (i := 11) (oi := ⟨some 39, _, _, _, _, _⟩) (v := undef) rfl (by kernel_rfl) (by kernel_rfl) (by kernel_rfl) (fun _ _ _ h => h) (Or.inr ⟨rfl, rfl⟩) hH ?_
      try simp only [Act.put, List.setIfInBounds_toArray, List.set_cons_zero, List.set_cons_succ]
      refine wpAnyH_take (i := 12) (oi := ⟨some 40, _, _, _, _, _⟩) (v := undef) rfl (by kernel_rfl) (by kernel_rfl) (by kernel_rfl) (fun _ _ _ h => h) (Or.inr ⟨rfl, rfl⟩) hH ?_
      try simp only [Act.put, List.setIfInBounds_toArray, List.set_cons_zero, List.set_cons_succ]
      refine wpAnyH_take (i := 13) (oi := ⟨some 41, _, _, _, _, _⟩) (v := undef) rfl (by kernel_rfl) (by kernel_rfl) (by kernel_rfl) (fun _ _ _ h => h) (Or.inr ⟨rfl, rfl⟩) hH ?_
      try simp only [Act.put, List.setIfInBounds_toArray, List.set_cons_zero, List.set_cons_succ]
      refine wpAnyH_take (i := 14) (oi := ⟨some 42, _, _, _, _, _⟩) (v := undef) rfl (by kernel_rfl) (by kernel_rfl) (by kernel_rfl) (fun _ _ _ h => h) (Or.inr ⟨rfl, rfl⟩) hH ?_
      try simp only [Act.put, List.setIfInBounds_toArray, List.set_cons_zero, List.set_cons_succ]
      refine wpAnyH_take (i := 15) (oi := ⟨some 43, _, _, _, _, _⟩) (v := undef) rfl (by kernel_rfl) (by kernel_rfl) (by kernel_rfl) (fun _ _ _ h => h) (Or.inr ⟨rfl, rfl⟩) hH ?_
      try simp only [Act.put, List.setIfInBounds_toArray, List.set_cons_zero, List.set_cons_succ]
      refine wpAnyH_take (i := 16) (oi := ⟨some 44, _, _, _, _, _⟩) (v := undef) rfl (by kernel_rfl) (by kernel_rfl) (by kernel_rfl) (fun _ _ _ h => h) (Or.inr ⟨rfl, rfl⟩) hH ?_
      try simp only [Act.put, List.setIfInBounds_toArray, List.set_cons_zero, List.set_cons_succ]
      refine wpAnyH_take (i := 17) (oi := ⟨some 45, _, _, _, _, _⟩) (v := undef) rfl (by kernel_rfl) (by kernel_rfl) (by kernel_rfl) (fun _ _ _ h => h) (Or.inr ⟨rfl, rfl⟩) hH ?_
      try simp only [Act.put, List.setIfInBounds_toArray, List.set_cons_zero, List.set_cons_succ]
      refine wpAnyH_take (i := 18) (oi := ⟨some 46, _, _, _, _, _⟩) (v := undef) rfl (by kernel_rfl) (by kernel_rfl) (by kernel_rfl) (fun _ _ _ h => h) (Or.inr ⟨rfl, rfl⟩) hH ?_
      try simp only [Act.put, List.setIfInBounds_toArray, List.set_cons_zero, List.set_cons_succ]
      refine wpAnyH_take (i := 19) (oi := ⟨some 47, _, _, _, _, _⟩) (v := ?v520) rfl (by kernel_rfl) (by kernel_rfl) (by kernel_rfl) (fun _ _ _ h => h) (Or.inl ⟨rfl, ?c520⟩) hH ?r520
      case c520 => (intro w' _; go_simp; (try with_reducible rfl))
      try simp only [Act.put, List.setIfInBounds_toArray, List.set_cons_zero, List.set_cons_succ]
      refine wpAnyH_take (i := 20) (oi := ⟨some 4, _, _, _, _, _⟩) (v := ?v521) rfl (by kernel_rfl) (by kernel_rfl) (by kernel_rfl) (fun _ _ _ h => h) (Or.inl ⟨rfl, ?c521⟩) hH ?r521
      case c521 => (intro w' _; go_simp; (try with_reducible rfl))
      try simp only [Act.put, List.setIfInBounds_toArray, List.set_cons_zero, List.set_cons_succ]
      refine wpAnyH_take (i := 21) (oi := ⟨some 5, _, _, _, _, _⟩) (v := ?v522) rfl (by kernel_rfl) (by kernel_rfl) (by kernel_rfl) (fun _ _ _ h => h) (Or.inl ⟨rfl, ?c522⟩) hH ?r522
      case c522 => (intro w' _; go_simp; (try with_reducible rfl))
      try simp only [Act.put, List.setIfInBounds_toArray, List.set_cons_zero, List.set_cons_succ]
      refine wpAnyH_done (by kernel_rfl) ?_ _
      have HBE := Lib.hid (HB.out.trans (hH.out.mono HB.out.size))
      clear hH
      go_wp2_with fail
      go_ret2
      exact ⟨rfl, HBE.out⟩
end
end R
end Tb
end Go.Proofs.Ytgcnhbjoalemlaa
