/- Several texts of this proof in one file, each in its own namespace. -/
import Derived.Test.YtgcnhbjoalemlaaGreatDoorAutW
import Derived.Test.YtgcnhbjoalemlaaGreatDoorJ40
import Derived.Test.YtgcnhbjoalemlaaGreatDoorJ30
import Derived.Test.YtgcnhbjoalemlaaGreatDoorJ36
import Derived.Test.YtgcnhbjoalemlaaGreatDoorFsmB
import Derived.Test.YtgcnhbjoalemlaaGreatDoorRulO
import Derived.Deep.RegionHeldLaw
import Derived.Test.YtgcnhbjoalemlaaGreatDoorJ39
import Derived.Test.YtgcnhbjoalemlaaGreatDoorJ33
import Derived.Deep.RegionHeld3
import Derived.Test.YtgcnhbjoalemlaaGreatDoorJ34
import Derived.Test.YtgcnhbjoalemlaaGreatDoorJ14
/- Layer 18: what the listed variables hold (Env); the program's firewall in its block (PAt). -/
set_option linter.unusedVariables false
set_option linter.unusedSimpArgs false
set_option maxRecDepth 100000
namespace Go.Proofs.YtgcnhbjoalemlaaGreatDoor
open Go.ChangeShapes Go.WideShapes Go.ChangeAt Go.RowKit Go.Mtl Go.Lib
namespace Au
open AutM
open RulM (R)

/-- What the listed variables hold. -/
structure Env (w : World) : Prop where
  ga : Ga.Env w
  fl : Fl.Env w
  ah : Ah.Env w
theorem Env.below {w w' : World} (h : Env w) (hb : Below w.heap.size w w') : Env w' := ⟨h.ga.below hb (Nat.le_refl _), h.fl.below hb (Nat.le_refl _), h.ah.below hb⟩
/-- A block that is none of the listed variables'. -/
structure Far (j : Nat) : Prop where
  ga : j ≠ 0
  fl : j ≠ 1
  ah : j ≠ 2
theorem Env.only {O : Nat → Prop} {w w' : World} (h : Env w) (ho : Only O w w') (hf : ∀ j, O j → Far j) : Env w' := by
  have hga : w'.heap[0]? = w.heap[0]? := ho.block _ h.ga.lt fun e => (hf _ e).ga rfl
  have hfl : w'.heap[1]? = w.heap[1]? := ho.block _ h.fl.lt fun e => (hf _ e).fl rfl
  have hah : w'.heap[2]? = w.heap[2]? := ho.block _ (Ah.var_lt Ah.gTab h.ah.tab) fun e => (hf _ e).ah rfl
  have cga : ∀ i, w'.cell? ⟨0, i, none⟩ = w.cell? ⟨0, i, none⟩ := fun i => World.cell?_of_block (w := w) hga
  have cfl : ∀ i, w'.cell? ⟨1, i, none⟩ = w.cell? ⟨1, i, none⟩ := fun i => World.cell?_of_block (w := w) hfl
  refine ⟨?_, ?_, ⟨?_⟩⟩
  · obtain ⟨c0, c1, c2, c3, c4, c5, c6, c7, c8⟩ := h.ga
    exact ⟨(cga _).trans c0, (cga _).trans c1, (cga _).trans c2, (cga _).trans c3, (cga _).trans c4, (cga _).trans c5, (cga _).trans c6, (cga _).trans c7, (cga _).trans c8⟩
  · obtain ⟨c0, c1, c2, c3, c4, c5, c6, c7, c8⟩ := h.fl
    exact ⟨(cfl _).trans c0, (cfl _).trans c1, (cfl _).trans c2, (cfl _).trans c3, (cfl _).trans c4, (cfl _).trans c5, (cfl _).trans c6, (cfl _).trans c7, (cfl _).trans c8⟩
  · have ht := h.ah.tab
    have e : w'.var? Tryz.prog "internal/strconv.uint64pow10" = w.var? Tryz.prog "internal/strconv.uint64pow10" := by
      unfold World.var?
      simp only [Ah.gTab, Option.bind_some, hah]
    unfold TabIs at ht ⊢
    rw [e]
    exact ht
theorem Env.new {w : World} (h : Env w) {j : Nat} (hj : w.heap.size ≤ j) : Far j :=
  ⟨by have := h.ga.lt; omega, by have := h.fl.lt; omega, by have := Ah.var_lt Ah.gTab h.ah.tab; omega⟩

/-- A firewall: the gate's three numbers, the rules of its version, its flows, its six counters. -/
structure St where
  c : Int
  g : Int
  v : Int
  rl : List R
  fs : List Fl
  tl : Nat → Int
/-- What holds of every firewall that New made: N is its greatest number of flows. -/
structure Inv (N : Int) (s : St) : Prop where
  fit : GatM.Fit s.c s.g s.v
  cnt : s.g = s.fs.length
  cap : s.g ≤ N
  cap1 : N ≤ 4095
  oks : Oks s.fs
  rls : ∀ r ∈ s.rl, r.Ok
  few : s.rl.length ≤ 64
  tl : ∀ i, 0 ≤ s.tl i ∧ s.tl i < 18446744073709551616

/-- Its 26 cells. -/
abbrev acs (N : Int) (T : Nat → Int) (x : Int) (li fl : Value) (t : Nat → Int) : Array Value :=
  #[.int .i64 N, .int .i64 (T 0), .int .i64 (T 1), .int .i64 (T 2), .int .i64 (T 3), .int .i64 (T 4), .int .i64 (T 5), .int .i64 (T 6), .int .i64 (T 7), .int .i64 (T 8), .int .i64 (T 9), .int .i64 (T 10), .int .i64 (T 11), .int .i64 (T 12), .int .i64 (T 13), .int .i64 (T 14), .int .i64 (T 15),
    .int .u64 x, li, fl, .int .u64 (t 0), .int .u64 (t 1), .int .u64 (t 2), .int .u64 (t 3), .int .u64 (t 4), .int .u64 (t 5)]
/-- What lies in the blocks of a firewall: its own block B, its map M, its rules; O are the blocks that are its own. -/
structure Raw (w : World) (O : Nat → Prop) (B M : Nat) (N : Int) (T : Nat → Int) (x : Int) (li : Value) (rl : List R) (fs : List Fl) (t : Nat → Int) : Prop where
  blk : Blk w B (acs N T x li (.map (some M)) t) 65
  rds : Rds w w.heap.size li rl
  own : 0 < rl.length → ∀ a n c, li = .slice (some a) n c → O a.block ∧ a.block ≠ B ∧ a.block ≠ M
  map : MapAt w M fs
  ne : B ≠ M
  ob : O B
  om : O M
  lt : ∀ j, O j → j < w.heap.size
  hi : ∀ j, O j → Far j
theorem Rds.only {O : Nat → Prop} {w w' : World} {v : Value} {rs : List R} (h : Rds w w.heap.size v rs) (ho : Only O w w') (hn : 0 < rs.length → ∀ a n c, v = .slice (some a) n c → ¬ O a.block) : Rds w' w'.heap.size v rs := by
  obtain ⟨A', cap', h1, h2, h3, h4⟩ := h
  refine ⟨A', cap', h1, h2, h3, fun hp => ?_⟩
  obtain ⟨b, off, rfl, hb, hc⟩ := h4 hp
  exact ⟨b, off, rfl, Nat.lt_of_lt_of_le hb ho.size, fun j u hu => (ho.cell (p := ⟨b, off + j, none⟩) hb (hn hp ⟨b, off, none⟩ _ _ h1)).trans (hc j u hu)⟩
section
variable {w w' : World} {O O' : Nat → Prop} {B M : Nat} {N : Int} {T : Nat → Int} {x : Int} {li : Value} {rl : List R} {fs : List Fl} {t : Nat → Int}
/-- What others do does not touch it. -/
theorem Raw.far (H : Raw w O B M N T x li rl fs t) (h : Only O' w w') (hd : ∀ j, O j → ¬ O' j) : Raw w' O B M N T x li rl fs t where
  blk := Blk.only H.blk h (hd _ H.ob)
  rds := Rds.only H.rds h fun hp a n c e => hd _ (H.own hp a n c e).1
  own := H.own
  map := H.map.keep (h.block _ H.map.lt (hd _ H.om))
  ne := H.ne
  ob := H.ob
  om := H.om
  lt := fun j hj => Nat.lt_of_lt_of_le (H.lt j hj) h.size
  hi := H.hi
theorem Raw.next (H : Raw w O B M N T x li rl fs t) (hb : Below w.heap.size w w') : Raw w' O B M N T x li rl fs t := H.far (O' := fun _ => False) (Only.of_below hb) (fun _ _ e => e)
theorem Raw.drew (H : Raw w O B M N T x li rl fs t) : Raw w.drew O B M N T x li rl fs t := H.next (Below.refl _ w).drew
theorem Raw.alloc (H : Raw w O B M N T x li rl fs t) (o : Obj) : Raw (w.alloc o) O B M N T x li rl fs t := H.next ((Below.refl _ w).alloc (Nat.le_refl _) o)
/-- A store into a block that is not its own. -/
theorem Raw.store (H : Raw w O B M N T x li rl fs t) (p : Addr) (hp : ¬ O p.block) (u : Value) : Raw (w.setCell p u) O B M N T x li rl fs t :=
  H.far (O' := fun j => j = p.block) ((Only.refl (fun j => j = p.block) w).setCell (.inl rfl) u) (fun j hj e => hp (e ▸ hj))
/-- Its cells. -/
theorem Raw.at_ (H : Raw w O B M N T x li rl fs t) (i : Nat) (v : Value) (h : (acs N T x li (.map (some M)) t)[i]? = some v) : w.cell? ⟨B, i, none⟩ = some v := H.blk.cell i v h
/-- One of its own cells stored anew. -/
theorem Raw.set (H : Raw w O B M N T x li rl fs t) (i : Nat) (v : Value) {N' : Int} {T' : Nat → Int} {x' : Int} {t' : Nat → Int} (h : (acs N T x li (.map (some M)) t).setIfInBounds i v = acs N' T' x' li (.map (some M)) t') : Raw (w.setCell ⟨B, i, none⟩ v) O B M N' T' x' li rl fs t' where
  blk := H.blk.set' i v h
  rds := Rds.only H.rds ((Only.refl (· = B) w).setCell (.inl rfl) v) fun hp a n c e => (H.own hp a n c e).2.1
  own := H.own
  map := H.map.keep (Below.heap_setCell _ _ _ _ (Ne.symm H.ne))
  ne := H.ne
  ob := H.ob
  om := H.om
  lt := fun j hj => by have := H.lt j hj; rw [show (w.setCell ⟨B, i, none⟩ v).heap.size = w.heap.size by simp [World.setCell]]; exact this
  hi := H.hi
theorem Raw.word (H : Raw w O B M N T x li rl fs t) (x' : Int) : Raw (w.setCell ⟨B, 17, none⟩ (.int .u64 x')) O B M N T x' li rl fs t := H.set 17 _ rfl
/-- The map turned. -/
theorem Raw.turn (H : Raw w O B M N T x li rl fs t) {fs' : List Fl} (h : Only (· = M) w w') (hm : MapAt w' M fs') : Raw w' O B M N T x li rl fs' t where
  blk := Blk.only H.blk h H.ne
  rds := Rds.only H.rds h fun hp a n c e => (H.own hp a n c e).2.2
  own := H.own
  map := hm
  ne := H.ne
  ob := H.ob
  om := H.om
  lt := fun j hj => Nat.lt_of_lt_of_le (H.lt j hj) h.size
  hi := H.hi
/-- Other rules, in a block that came since. -/
theorem Raw.list (H : Raw w O B M N T x li rl fs t) {li' : Value} {rl' : List R} (hr : Rds w w.heap.size li' rl') (n0 : Nat) (hn : ∀ j, O j → j < n0) (hl : 0 < rl'.length → ∀ a n c, li' = .slice (some a) n c → n0 ≤ a.block) (hfar : ∀ j, n0 ≤ j → Far j) :
    Raw (w.setCell ⟨B, 18, none⟩ li') (fun j => O j ∨ (n0 ≤ j ∧ j < w.heap.size)) B M N T x li' rl' fs t where
  blk := H.blk.set' 18 li' rfl
  rds := Rds.only hr ((Only.refl (· = B) w).setCell (.inl rfl) li') fun hp a n c e h => by have := hl hp a n c e; have := hn _ H.ob; omega
  own := fun hp a n c e => by
    have h1 := hl hp a n c e
    have h2 := hn _ H.ob
    have h3 := hn _ H.om
    obtain ⟨A, c', e2, _, _, h4⟩ := hr
    rw [e] at e2
    injection e2 with e2
    obtain ⟨b, off, e3, hb, _⟩ := h4 hp
    rw [e3] at e2
    obtain rfl := Option.some.inj e2
    exact ⟨.inr ⟨h1, hb⟩, by omega, by omega⟩
  map := H.map.keep (Below.heap_setCell _ _ _ _ (Ne.symm H.ne))
  ne := H.ne
  ob := .inl H.ob
  om := .inl H.om
  lt := fun j hj => by
    rw [show (w.setCell ⟨B, 18, none⟩ li').heap.size = w.heap.size by simp [World.setCell]]
    exact hj.elim (fun h => H.lt j h) (fun h => h.2)
  hi := fun j hj => hj.elim (H.hi j) (fun h => hfar j h.1)
end
/-- Block B holds a firewall that New made. -/
def PAt (w : World) (O : Nat → Prop) (B M : Nat) (N : Int) (T : Nat → Int) (s : St) : Prop :=
  (∃ li, Raw w O B M N T (GatM.gI s.c s.g s.v) li s.rl s.fs s.tl) ∧ Inv N s ∧ (∀ i, -9223372036854775808 ≤ T i ∧ T i ≤ 9223372036854775807) ∧ 1 ≤ N
theorem PAt.far {w w' : World} {O O' : Nat → Prop} {B M : Nat} {N : Int} {T : Nat → Int} {s : St} (H : PAt w O B M N T s) (h : Only O' w w') (hd : ∀ j, O j → ¬ O' j) : PAt w' O B M N T s := by
  obtain ⟨⟨li, h1⟩, h2⟩ := H
  exact ⟨⟨li, h1.far h hd⟩, h2⟩
theorem PAt.next {w w' : World} {O : Nat → Prop} {B M : Nat} {N : Int} {T : Nat → Int} {s : St} (H : PAt w O B M N T s) (hb : Below w.heap.size w w') : PAt w' O B M N T s := by
  obtain ⟨⟨li, h1⟩, h2⟩ := H
  exact ⟨⟨li, h1.next hb⟩, h2⟩
end Au
end Go.Proofs.YtgcnhbjoalemlaaGreatDoor
/- Layer 18: the methods on a nil firewall; Gate, Tick, until. -/
set_option linter.unusedVariables false
set_option linter.unusedSimpArgs false
set_option maxRecDepth 100000
namespace Go.Proofs.YtgcnhbjoalemlaaGreatDoor
open Go.ChangeShapes Go.WideShapes Go.ChangeAt Go.RowKit Go.Mtl Go.Lib
namespace Au
open AutM
open RulM (R)

abbrev ptr (B : Nat) : Value := .pointer (some ⟨B, 0, none⟩)
theorem below_box (w : World) (o : Obj) : Below w.heap.size w (w.alloc o) := (Below.refl _ w).alloc (Nat.le_refl _) o
theorem below_then {w w1 w2 : World} (h : Below w.heap.size w w1) (h2 : Below w1.heap.size w1 w2) : Below w.heap.size w w2 := h.trans (h2.mono h.size)
theorem drewN_below (w : World) (n : Nat) : Below w.heap.size w (w.drewN n) := ⟨rfl, rfl, rfl, Nat.le_refl _, fun _ _ => rfl⟩
theorem gate_any {w : World} {O : Nat → Prop} {B M : Nat} {N : Int} {T : Nat → Int} {c g v : Int} {li : Value} {rl : List R} {fs : List Fl} {t : Nat → Int} (H : Raw w O B M N T (GatM.gI c g v) li rl fs t) (hf : GatM.Fit c g v) (he : Env w) :
    Calls Tryz.prog 20 #[ptr B] w fun e w' => e = .returned (.agg (Ga.gtc v g c)) ∧ Below w.heap.size w w' := by
  have HB := Lib.hid (below_box w (.cells (Ga.gtc 0 0 0) 77))
  have HX := Lib.hid (Blk.box w (Ga.gtc 0 0 0) 77)
  have c17 := (H.alloc (.cells (Ga.gtc 0 0 0) 77)).at_ 17 _ rfl
  have HU := Lib.hid (Ga.unpack_any hf (w.alloc (.cells (Ga.gtc 0 0 0) 77)) (he.below HB.out).ga)
  clear H he
  go_enter Tryz.func20, Tryz.ntmps20
  go_wp2_with fail
  go_at_call 47
  refine HU.out.mono ?_
  rintro e w1 ⟨rfl, hb⟩
  have HB1 := Lib.hid (HB.out.trans (hb.mono HB.out.size))
  have HX1 := Lib.hid (HX.out.next hb)
  obtain ⟨f0, f1, f2⟩ := Ga.gt_frozen HX1.out
  obtain ⟨x0, x1, x2⟩ := Ga.gt_cells HX1.out
  clear hb c17
  go_wp2_with fail
  have HR := Ga.gt_store HX1.out v g c
  obtain ⟨r0, r1, r2⟩ := Ga.gt_cells HR
  exact bodyPost_ret (v := .agg (Ga.gtc v g c)) (by simp [results, Tryz.results20, go_sem, r0, r1, r2]) rfl ⟨rfl, Ga.below_storeG HB1.out (by simp) _ _ _⟩

theorem tick_any {w : World} {O : Nat → Prop} {B M : Nat} {N : Int} {T : Nat → Int} {s : St} (H : PAt w O B M N T s) (he : Env w) (n : Int) (hn : -9223372036854775808 ≤ n ∧ n ≤ 9223372036854775807) :
    Calls Tryz.prog 17 #[ptr B, .int .i64 n] w fun e w' => e = .returned (.tuple #[]) ∧ PAt w' O B M N T { s with c := Ga.later s.c n } ∧ Only O w w' := by
  obtain ⟨⟨li, H⟩, hi, htm, hN⟩ := H
  have c17 := H.at_ 17 _ rfl
  have f17 := H.blk.frozen 17
  have HU := Lib.hid (Ga.tick_any hi.fit hn.1 hn.2 w he.ga)
  have HH := Lib.hid H
  have HI := Lib.hid hi
  have HTM := Lib.hid htm
  clear H he hi htm
  go_enter Tryz.func17, Tryz.ntmps17
  go_wp2_with fail
  go_at_call 41
  refine HU.out.mono ?_
  rintro e w1 ⟨rfl, m, rfl⟩
  go_wp2_with fail
  go_end0
  have HF := HI.out.fit
  have HL := Ga.later_fit (n := n) HF
  have HR := (HH.out.next (drewN_below w m)).word (GatM.gI (Ga.later s.c n) s.g s.v)
  refine ⟨rfl, ⟨⟨li, HR⟩, ⟨⟨HL.1, HL.2.1, HF.k0, HF.k1, HF.v0, HF.v1⟩, HI.out.cnt, HI.out.cap, HI.out.cap1, HI.out.oks, HI.out.rls, HI.out.few, HI.out.tl⟩, HTM.out, hN⟩, ?_⟩
  exact ((Only.refl O w).next (drewN_below w m)).setCell (.inl HH.out.ob) _
end Au
end Go.Proofs.YtgcnhbjoalemlaaGreatDoor
/- Layer 18: rules that come in: few, slices.Clone, checkRules, the reference's Fits. -/
set_option linter.unusedVariables false
set_option linter.unusedSimpArgs false
set_option maxRecDepth 100000
namespace Go.Proofs.YtgcnhbjoalemlaaGreatDoor
open Go.ChangeShapes Go.WideShapes Go.ChangeAt Go.RowKit Go.Mtl Go.Lib
namespace Au
open AutM
open RulM (R goodR)
open Ma (Ten ten_at)

/-- What is wrong with rules. -/
def fitE (rs : List R) : Int := if 64 < rs.length then 14 else if rs.all goodR then 0 else 1
theorem fit_many {rs : List R} (h : 64 < rs.length) : fitE rs = 14 := if_pos h
theorem fit_ok {rs : List R} (h : ¬ 64 < rs.length) (hg : ∀ (i : Nat) q, i < rs.length → rs[i]? = some q → goodR q = true) : fitE rs = 0 := by
  unfold fitE
  rw [if_neg h, if_pos (List.all_eq_true.2 fun q hq => by obtain ⟨i, hi⟩ := List.mem_iff_getElem?.1 hq; exact hg i q (List.getElem?_eq_some_iff.1 hi).1 hi)]
theorem fit_bad {rs : List R} (h : ¬ 64 < rs.length) {i : Nat} {q : R} (hi : rs[i]? = some q) (hq : goodR q = false) : fitE rs = 1 := by
  unfold fitE
  rw [if_neg h, if_neg]
  intro ha
  have := List.all_eq_true.1 ha q (List.mem_of_getElem? hi)
  rw [hq] at this; cases this
theorem fit_len {rs : List R} (h : fitE rs = 0) : rs.length ≤ 64 := by
  unfold fitE at h
  split at h
  · cases h
  · omega

/-- The first seventy. -/
def few (rs : List R) : List R := if 70 < rs.length then rs.take 70 else rs
theorem few_len (rs : List R) : (few rs).length ≤ 70 ∧ (few rs).length ≤ rs.length := by
  unfold few; split <;> (try rw [List.length_take]) <;> omega
theorem few_ok {rs : List R} (h : ∀ r ∈ rs, r.Ok) : ∀ r ∈ few rs, r.Ok := by
  unfold few; intro r hr; split at hr
  · exact h r (List.mem_of_mem_take hr)
  · exact h r hr
theorem few_rds {w : World} {B : Nat} {A : Option Addr} {n c : Nat} {rs : List R} (h : Rds w B (.slice A n c) rs) : Rds w B (.slice A (few rs).length c) (few rs) := by
  have hn : rs.length = n := by obtain ⟨A', c', e, _⟩ := h; injection e with _ e2 _; exact e2.symm
  unfold few
  split
  · have := h.front 70 (by omega)
    rwa [show (rs.take 70).length = 70 by rw [List.length_take]; omega]
  · rw [hn]; exact h
theorem few_any (A : Option Addr) (n c : Nat) (rs : List R) (w : World) (hn : rs.length = n) (hr : Rds w w.heap.size (.slice A n c) rs) :
    Calls Tryz.prog 5 #[.slice A n c] w fun e w' => e = .returned (.slice A (few rs).length c) ∧ w = w' := by
  obtain ⟨A', c', e, hc, hm, h4⟩ := hr
  injection e with e1 e2 e3
  subst e1 e3
  clear e2
  unfold maxLen at hm
  by_cases h : 70 < n
  · obtain ⟨b, off, rfl, _, _⟩ := h4 (by omega)
    clear h4
    have HL : Hid ((few rs).length = 70) := by show _ = _; unfold few; rw [if_pos (by omega), List.length_take]; omega
    have hcn : n ≤ c := by omega
    clear hc hn
    go_enter Tryz.func5, Tryz.ntmps5
    go_wp2_with fail
    go_ret
    exact ⟨by rw [HL.out]; rfl, rfl⟩
  · have HL : Hid ((few rs).length = n) := by show _ = _; unfold few; rw [if_neg (by omega), hn]
    have hcn : n ≤ c := by omega
    clear hc hn h4
    go_enter Tryz.func5, Tryz.ntmps5
    go_wp2_with fail
    go_ret
    exact ⟨by rw [HL.out]; rfl, rfl⟩

theorem own_none (w : World) (T : TypeId) (base : Nat) (hb : base ≤ w.heap.size) : (w.alloc (.cells #[] T)).ownsRow base T 10 (.slice (some ⟨w.heap.size, 0, none⟩) 0 0) 0 [] := by
  refine ⟨rfl, .inr ⟨w.heap.size, 0, #[], rfl, hb, heap_alloc_new w _, Nat.le_refl _, by unfold maxLen; omega, rfl, rfl⟩⟩
/-- What a row of the call's own reads as. -/
theorem own_rds {w : World} {base T : Nat} {v : Value} {rs : List R} (h : w.ownsRow base T 10 v rs.length (cellsRs rs)) : Rds w w.heap.size v rs ∧ (0 < rs.length → ∀ a n c, v = .slice (some a) n c → base ≤ a.block) := by
  refine ⟨Rds.of_own h, fun hp a n c e => ?_⟩
  rcases h.2 with ⟨h1, h2⟩ | ⟨g, cap, cur, h1, h2, _⟩
  · omega
  · rw [h1] at e; injection e with e; injection e with e; rw [← e]; exact h2
theorem nil_eq (A : Option Addr) (n c : Nat) (W : World) : (binOp .eql 25 (.slice A n c) (.slice none 0 0)).run Tryz.prog W = .ok (.bool A.isNone) W := by
  have h : (Op.equal 25 (.slice A n c) (.slice none 0 0)).run Tryz.prog W = .ok A.isNone W := by
    show (Op.equalIn (9999 + 1) 25 _ _).run _ _ = _
    rw [Op.equalIn]
    cases A <;> simp [run_underlying Tryz.underlying25]
  simp [binOp, h]
/-- append at the walk: rules that came in, to a row of the call's own. -/
theorem wpList_append_rds {w W0 : World} {ops : Array Oper} {rest : List Oper} {o : Oper} {a : Act} {Q : Exit → Act → World → Prop} (hgd : o.guard = none) (s x : Operand)
    (ho : o.op = .call { callee := .builtin .append, args := #[s, x], argTypes := #[25, 25] })
    (v : Value) (xs : List R) (hs : a.eval s = v) (hown : w.ownsRow W0.heap.size 62 10 v xs.length (cellsRs xs)) (hbel : Below W0.heap.size W0 w)
    (B : Nat) (A : Option Addr) (m c : Nat) (ys : List R) (hx : a.eval x = .slice A m c) (hm : ys.length = m) (hr : Rds w B (.slice A m c) ys) (hlen : xs.length + m ≤ 100000)
    (h : ∀ v' w', Hid (w'.ownsRow W0.heap.size 62 10 v' (xs ++ ys).length (cellsRs (xs ++ ys))) → Hid (Below W0.heap.size W0 w') → wpList Tryz.prog ops Q rest (a.put o.dst v') w') :
    wpList Tryz.prog ops Q (o :: rest) a w := by
  have h1 := Ma.step_append_rds (Kt := wpList Tryz.prog ops Q rest) (Q := Q) (ops := ops) (E := False) W0 hgd s x ho v xs hs hown hbel B A m c ys hx hm hr hlen h
  have hw : Region.wanted o (yielded ops a.tmps) = true := by simp [Region.wanted, hgd]
  rw [if_pos hw] at h1
  unfold wpList
  rw [if_pos hw]
  exact .inl h1
theorem clone_any (A : Option Addr) (n c : Nat) (rs : List R) (w : World) (hn : rs.length = n) (hr : Rds w w.heap.size (.slice A n c) rs) (hm : n ≤ 100000) :
    Calls Tryz.prog 13 #[.slice A n c] w fun e w' => ∃ v, e = .returned v ∧ Rds w' w'.heap.size v rs ∧ (0 < rs.length → ∀ a n c, v = .slice (some a) n c → w.heap.size ≤ a.block) ∧ Below w.heap.size w w' := by
  rcases A with _ | ad
  · have h0 : rs = [] := by
      obtain ⟨A', c', e, _, _, h4⟩ := hr
      injection e with e1 e2 e3
      subst e1
      rcases Nat.eq_zero_or_pos rs.length with h | h
      · exact List.eq_nil_of_length_eq_zero h
      · obtain ⟨b, off, e, _⟩ := h4 h; cases e
    subst h0
    have heq := nil_eq none n c
    simp only [Option.isNone_none] at heq
    clear hr hm
    go_enter Tryz.func13, Tryz.ntmps13
    go_wp2_with fail
    go_ret
    exact ⟨_, rfl, Rds.nil _ _, fun h => absurd h (by simp), Below.refl _ _⟩
  · have HB := Lib.hid (below_box w (.cells #[] 62))
    have HR := Lib.hid (hr.keep fun p hp => HB.out.cell hp)
    have HN := Lib.hid hn
    have HM := Lib.hid hm
    have heq := nil_eq (some ad) n c
    simp only [Option.isNone_some] at heq
    clear hr hn hm
    go_enter Tryz.func13, Tryz.ntmps13
    go_wp2_with (at_builtin; (refine wpList_append_rds (W0 := w) rfl (.tmp 5) (.tmp 6) rfl _ [] rfl (own_none w 62 w.heap.size (Nat.le_refl _)) HB.out w.heap.size (some ad) n c rs rfl HN.out HR.out (by simp; exact HM.out) ?_; intro v' w' H1 H2))
    go_ret
    exact ⟨_, rfl, (own_rds H1.out).1, (own_rds H1.out).2, H2.out⟩

set_option maxHeartbeats 2000000 in
theorem check_any (A : Option Addr) (n c : Nat) (rs : List R) (w : World) (he : Env w) (hn : rs.length = n) (hr : Rds w w.heap.size (.slice A n c) rs) (ho : ∀ r ∈ rs, r.Ok) :
    Calls Tryz.prog 22 #[.slice A n c] w fun e w' => e = .returned (.int .i64 (fitE rs)) ∧ Below w.heap.size w w' := by
  by_cases h64 : 64 < n
  · have HF := Lib.hid (fit_many (rs := rs) (by omega))
    have hm : n ≤ maxLen := by obtain ⟨A', c', e, h1, h2, _⟩ := hr; omega
    unfold maxLen at hm
    clear he hn hr ho
    go_enter Tryz.func22, Tryz.ntmps22
    go_wp2_with fail
    go_ret
    exact ⟨by rw [HF.out]; rfl, Below.refl _ _⟩
  have HRS := Lib.hid hr
  have HN := Lib.hid hn
  have HO := Lib.hid ho
  have HE := Lib.hid he
  clear he hn hr ho
  go_enter Tryz.func22, Tryz.ntmps22
  go_wp2_with fail
  go_loopw [10] (fun i wr => ∃ j : Nat, j ≤ n ∧ i = .int .i64 (j : Int) ∧ Hid (Below w.heap.size w wr) ∧ Hid (∀ (i : Nat) q, i < j → rs[i]? = some q → goodR q = true)) (fun i _ => n - (RowKit.intOf i).toNat)
  case atStart => exact ⟨0, by omega, rfl, Below.refl _ _, (show Hid _ from fun i q hi => absurd hi (Nat.not_lt_zero _))⟩
  case round =>
    obtain ⟨j, hj, rfl, HB, hbe⟩ := hrel
    by_cases hlt : j < n
    · obtain ⟨r, hrj⟩ : ∃ x, rs[j]? = some x := ⟨_, List.getElem?_eq_getElem (by have := HN.out; omega)⟩
      obtain ⟨b, off, cap, hv, hg, ht⟩ := ten_at HRS.out hrj
      injection hv with hv1 hv2 hv3
      subst hv1 hv3
      obtain ⟨x0, x1, x2, x3, x4, x5, x6, x7, x8, x9⟩ := ht.below HB.out hg
      have HX := Lib.hid (Ma.RAt.box wr r)
      have HW := Lib.hid (below_then HB.out (below_box wr (.cells (Ma.rK r) 62)))
      have HG := Lib.hid (Ah.good_any r (HO.out r (List.mem_of_getElem? hrj)) (wr.alloc (.cells (Ma.rK r) 62)) (HE.out.below HW.out).ah)
      obtain ⟨y0, y1, y2, y3, y4, y5, y6, y7, y8, y9⟩ := HX.out.cells
      have HRJ := Lib.hid hrj
      clear hrj ht hv2 hg
      cases hh : goodR r with
      | true =>
        rw [hh] at HG
        have HF : Hid (∀ (i : Nat) q, i < j + 1 → rs[i]? = some q → goodR q = true) := by
          show ∀ (i : Nat) q, i < j + 1 → rs[i]? = some q → goodR q = true
          intro i q hi hq
          by_cases e : i = j
          · subst e
            rw [HRJ.out] at hq
            injection hq with hq
            rw [← hq]; exact hh
          · exact hbe.out i q (by omega) hq
        clear hh
        go_wp2_with fail
        refine HG.out.mono ?_
        rintro e w1 ⟨rfl, hb⟩
        have HB1 := Lib.hid (below_then HW.out hb)
        clear hb x0 x1 x2 x3 x4 x5 x6 x7 x8 x9 y0 y1 y2 y3 y4 y5 y6 y7 y8 y9
        go_wp2_with fail
        go_roundw
        case rel => exact ⟨j + 1, by omega, by go_num, HB1.out, HF.out⟩
        case measure => simp [RowKit.intOf]; omega
      | false =>
        rw [hh] at HG
        have HF := Lib.hid (fit_bad (rs := rs) (by have := HN.out; omega) HRJ.out hh)
        clear hh
        go_wp2_with fail
        refine HG.out.mono ?_
        rintro e w1 ⟨rfl, hb⟩
        have HB1 := Lib.hid (below_then HW.out hb)
        clear hb x0 x1 x2 x3 x4 x5 x6 x7 x8 x9 y0 y1 y2 y3 y4 y5 y6 y7 y8 y9
        go_wp2_with fail
        go_ret
        exact ⟨by rw [HF.out]; rfl, HB1.out⟩
    · obtain rfl : j = n := by omega
      have HF := Lib.hid (fit_ok (rs := rs) (by have := HN.out; omega) (by rw [HN.out]; exact hbe.out))
      go_wp2_with fail
      go_ret
      exact ⟨by rw [HF.out]; rfl, HB.out⟩
set_option maxHeartbeats 2000000 in
theorem refFits_any (A : Option Addr) (n c : Nat) (rs : List R) (w : World) (hn : rs.length = n) (hr : Rds w w.heap.size (.slice A n c) rs) (ho : ∀ r ∈ rs, r.Ok) :
    Calls Tryz.prog 36 #[.slice A n c] w fun e w' => e = .returned (.int .i64 (fitE rs)) ∧ Below w.heap.size w w' := by
  by_cases h64 : 64 < n
  · have HF := Lib.hid (fit_many (rs := rs) (by omega))
    have hm : n ≤ maxLen := by obtain ⟨A', c', e, h1, h2, _⟩ := hr; omega
    unfold maxLen at hm
    clear hn hr ho
    go_enter Tryz.func36, Tryz.ntmps36
    go_wp2_with fail
    go_ret
    exact ⟨by rw [HF.out]; rfl, Below.refl _ _⟩
  have HRS := Lib.hid hr
  have HN := Lib.hid hn
  have HO := Lib.hid ho
  clear hn hr ho
  go_enter Tryz.func36, Tryz.ntmps36
  go_wp2_with fail
  go_loopw [3] (fun i wr => ∃ j : Nat, j ≤ n ∧ i = .int .i64 (j : Int) ∧ Hid (Below w.heap.size w wr) ∧ Hid (∀ (i : Nat) q, i < j → rs[i]? = some q → goodR q = true)) (fun i _ => n - (RowKit.intOf i).toNat)
  case atStart => exact ⟨0, by omega, rfl, Below.refl _ _, (show Hid _ from fun i q hi => absurd hi (Nat.not_lt_zero _))⟩
  case round =>
    obtain ⟨j, hj, rfl, HB, hbe⟩ := hrel
    by_cases hlt : j < n
    · obtain ⟨r, hrj⟩ : ∃ x, rs[j]? = some x := ⟨_, List.getElem?_eq_getElem (by have := HN.out; omega)⟩
      obtain ⟨b, off, cap, hv, hg, ht⟩ := ten_at HRS.out hrj
      injection hv with hv1 hv2 hv3
      subst hv1 hv3
      obtain ⟨x0, x1, x2, x3, x4, x5, x6, x7, x8, x9⟩ := ht.below HB.out hg
      have HG := Lib.hid (Ah.refGood_any r (HO.out r (List.mem_of_getElem? hrj)) wr)
      have HRJ := Lib.hid hrj
      clear hrj ht hv2 hg
      cases hh : goodR r with
      | true =>
        rw [hh] at HG
        have HF : Hid (∀ (i : Nat) q, i < j + 1 → rs[i]? = some q → goodR q = true) := by
          show ∀ (i : Nat) q, i < j + 1 → rs[i]? = some q → goodR q = true
          intro i q hi hq
          by_cases e : i = j
          · subst e
            rw [HRJ.out] at hq
            injection hq with hq
            rw [← hq]; exact hh
          · exact hbe.out i q (by omega) hq
        clear hh
        go_wp2_with fail
        refine HG.out.mono ?_
        rintro e w1 ⟨rfl, hb⟩
        have HB1 := Lib.hid (below_then HB.out hb)
        clear hb x0 x1 x2 x3 x4 x5 x6 x7 x8 x9
        go_wp2_with fail
        go_roundw
        case rel => exact ⟨j + 1, by omega, by go_num, HB1.out, HF.out⟩
        case measure => simp [RowKit.intOf]; omega
      | false =>
        rw [hh] at HG
        have HF := Lib.hid (fit_bad (rs := rs) (by have := HN.out; omega) HRJ.out hh)
        clear hh
        go_wp2_with fail
        refine HG.out.mono ?_
        rintro e w1 ⟨rfl, hb⟩
        have HB1 := Lib.hid (below_then HB.out hb)
        clear hb x0 x1 x2 x3 x4 x5 x6 x7 x8 x9
        go_wp2_with fail
        go_ret
        exact ⟨by rw [HF.out]; rfl, HB1.out⟩
    · obtain rfl : j = n := by omega
      have HF := Lib.hid (fit_ok (rs := rs) (by have := HN.out; omega) (by rw [HN.out]; exact hbe.out))
      go_wp2_with fail
      go_ret
      exact ⟨by rw [HF.out]; rfl, HB.out⟩

end Au
end Go.Proofs.YtgcnhbjoalemlaaGreatDoor
/- Layer 18: the contracts of Look, Drop, Delete. (Written by wip/tools/mkAutB.py.) -/
set_option linter.unusedVariables false
set_option linter.unusedSimpArgs false
set_option maxRecDepth 100000
namespace Go.Proofs.YtgcnhbjoalemlaaGreatDoor
open Go.ChangeShapes Go.WideShapes Go.ChangeAt Go.RowKit Go.Mtl Go.Lib
namespace Au
open AutM
open RulM (R)

/-- What the regions keep: the firewall, a block of the call's own, what was there before. -/
structure LQ (w0 : World) (O : Nat → Prop) (B M : Nat) (N : Int) (T : Nat → Int) (x : Int) (li : Value) (rl : List R) (fs : List Fl) (t : Nat → Int) (g : Nat) (cs : Array Value) (ty : TypeId) (w : World) : Prop where
  raw : Raw w O B M N T x li rl fs t
  box : Blk w g cs ty
  bel : Below w0.heap.size w0 w
  new : w0.heap.size ≤ g
section
variable {w0 w w' : World} {O : Nat → Prop} {B M : Nat} {N : Int} {T : Nat → Int} {x : Int} {li : Value} {rl : List R} {fs : List Fl} {t : Nat → Int} {g : Nat} {cs : Array Value} {ty : TypeId}
theorem LQ.next (H : LQ w0 O B M N T x li rl fs t g cs ty w) (hb : Below w.heap.size w w') : LQ w0 O B M N T x li rl fs t g cs ty w' := ⟨H.raw.next hb, H.box.next hb, H.bel.trans (hb.mono H.bel.size), H.new⟩
theorem LQ.drew (H : LQ w0 O B M N T x li rl fs t g cs ty w) : LQ w0 O B M N T x li rl fs t g cs ty w.drew := H.next (Below.refl _ w).drew
theorem LQ.alloc (H : LQ w0 O B M N T x li rl fs t g cs ty w) (o : Obj) : LQ w0 O B M N T x li rl fs t g cs ty (w.alloc o) := H.next (below_box w o)
end

set_option maxHeartbeats 2000000 in
theorem look_any {w : World} {O : Nat → Prop} {B M : Nat} {N : Int} {T : Nat → Int} {x : Int} {li : Value} {rl : List R} {fs : List Fl} {t : Nat → Int} (H : Raw w O B M N T x li rl fs t) (he : Env w) (k : Ke) (c n s : Int) (hf : FloM.Fit c n s) (y : Int) (hy : y = FloM.gI c n s) (d b : Bool)
    (hl : ∀ w', MapAt w' M fs → (Instr.lookup 56 (.map (some M)) (kyV k) true).run Tryz.prog w' = .ok (.tuple #[enW y d, .bool b]) w') :
    Calls Tryz.prog 11 #[ptr B, kyV k] w fun e w' => e = .returned (.tuple #[.agg (Fl.gtc s n c), .bool b]) ∧ Below w.heap.size w w' := by
  have HO := Lib.hid H.lt
  have HL := Lib.hid hl
  have hQ : LQ w O B M N T x li rl fs t w.heap.size (Ky.kyc k.a k.b k.p k.q k.r) 45 ((w.alloc (.cells (Ky.kyc k.a k.b k.p k.q k.r) 45)).alloc (.cells (Fl.gtc 0 0 0) 50)) :=
    (⟨H.alloc _, Blk.box _ _ _, below_box _ _, Nat.le_refl _⟩ : LQ w O B M N T x li rl fs t w.heap.size (Ky.kyc k.a k.b k.p k.q k.r) 45 (w.alloc (.cells (Ky.kyc k.a k.b k.p k.q k.r) 45))).alloc _
  have HX := Lib.hid (Blk.box1 w (.cells (Ky.kyc k.a k.b k.p k.q k.r) 45) (Fl.gtc 0 0 0) 50)
  have HQ := Lib.hid hQ
  have HE0 := Lib.hid he
  have HF := Lib.hid hf
  have HY := Lib.hid hy
  clear H hl hQ he hf hy
  go_enter Tryz.func11, Tryz.ntmps11
  go_wp2_with fail
  obtain ⟨WZ, hWZ⟩ : ∃ v, v = (w.alloc (.cells (Ky.kyc k.a k.b k.p k.q k.r) 45)).alloc (.cells (Fl.gtc 0 0 0) 50) := ⟨_, rfl⟩
  rw [← hWZ] at HQ HX ⊢
  clear hWZ
  refine wp_region_held_drew (S := fun w' => LQ w O B M N T x li rl fs t w.heap.size (Ky.kyc k.a k.b k.p k.q k.r) 45 w') (by kernel_rfl) (HQ.out.drew) (fun hH => ?_)
  refine wpAnyH_take (i := 0) (oi := ⟨some 12, _, _, _, _, _⟩) (v := ?v1) rfl (by kernel_rfl) (by kernel_rfl) (by kernel_rfl) (fun _ _ _ h => h) (Or.inl ⟨rfl, ?c1⟩) hH ?r1
  case c1 => (intro w' _; go_simp; (try with_reducible rfl))
  try simp only [Act.put, List.setIfInBounds_toArray, List.set_cons_zero, List.set_cons_succ]
  refine wpAnyH_take (i := 1) (oi := ⟨some 13, _, _, _, _, _⟩) (v := ?v2) rfl (by kernel_rfl) (by kernel_rfl) (by kernel_rfl) (fun _ _ _ h => h) (Or.inl ⟨rfl, ?c2⟩) hH ?r2
  case c2 => (intro w' _; go_simp; (try with_reducible rfl))
  try simp only [Act.put, List.setIfInBounds_toArray, List.set_cons_zero, List.set_cons_succ]
  refine wpAnyH_take (i := 2) (oi := ⟨some 14, _, _, _, _, _⟩) (v := ?v3) rfl (by kernel_rfl) (by kernel_rfl) (by kernel_rfl) (fun _ _ _ h => h) (Or.inl ⟨rfl, ?c3⟩) hH ?r3
  case c3 => (intro w' _; go_simp; (try with_reducible rfl))
  try simp only [Act.put, List.setIfInBounds_toArray, List.set_cons_zero, List.set_cons_succ]
  refine wpAnyH_take (i := 3) (oi := ⟨some 15, _, _, _, _, _⟩) (v := ?v4) rfl (by kernel_rfl) (by kernel_rfl) (by kernel_rfl) (fun _ _ _ h => h) (Or.inl ⟨rfl, ?c4⟩) hH ?r4
  case c4 => (intro w' hS; have c19 := hS.raw.at_ 19 _ rfl; go_simp; (try with_reducible rfl))
  try simp only [Act.put, List.setIfInBounds_toArray, List.set_cons_zero, List.set_cons_succ]
  refine wpAnyH_take (i := 4) (oi := ⟨some 16, _, _, _, _, _⟩) (v := ?v5) rfl (by kernel_rfl) (by kernel_rfl) (by kernel_rfl) (fun _ _ _ h => h) (Or.inl ⟨rfl, ?c5⟩) hH ?r5
  case c5 => (intro w' hS; obtain ⟨x0, x1, x2, x3, x4⟩ := Ky.ky_cells hS.box; go_simp; (try with_reducible rfl))
  try simp only [Act.put, List.setIfInBounds_toArray, List.set_cons_zero, List.set_cons_succ]
  refine wpAnyH_take (i := 5) (oi := ⟨some 17, _, _, _, _, _⟩) (v := ?v6) rfl (by kernel_rfl) (by kernel_rfl) (by kernel_rfl) (fun _ _ _ h => h) (Or.inl ⟨rfl, ?c6⟩) hH ?r6
  case c6 => (intro w' hS; go_simp; rw [HL.out w' hS.raw.map]; simp only [Result.andThen_ok]; (try with_reducible rfl))
  try simp only [Act.put, List.setIfInBounds_toArray, List.set_cons_zero, List.set_cons_succ]
  refine wpAnyH_take (i := 6) (oi := ⟨some 11, _, _, _, _, _⟩) (v := ?v7) rfl (by kernel_rfl) (by kernel_rfl) (by kernel_rfl) (fun _ _ _ h => h) (Or.inl ⟨rfl, ?c7⟩) hH ?r7
  case c7 => (intro w' _; go_simp; (try with_reducible rfl))
  try simp only [Act.put, List.setIfInBounds_toArray, List.set_cons_zero, List.set_cons_succ]
  refine wpAnyH_take (i := 7) (oi := ⟨some 18, _, _, _, _, _⟩) (v := ?v8) rfl (by kernel_rfl) (by kernel_rfl) (by kernel_rfl) (fun _ _ _ h => h) (Or.inl ⟨rfl, ?c8⟩) hH ?r8
  case c8 => (intro w' _; go_simp; (try with_reducible rfl))
  try simp only [Act.put, List.setIfInBounds_toArray, List.set_cons_zero, List.set_cons_succ]
  refine wpAnyH_take (i := 8) (oi := ⟨some 19, _, _, _, _, _⟩) (v := ?v9) rfl (by kernel_rfl) (by kernel_rfl) (by kernel_rfl) (fun _ _ _ h => h) (Or.inl ⟨rfl, ?c9⟩) hH ?r9
  case c9 => (intro w' _; go_simp; (try with_reducible rfl))
  try simp only [Act.put, List.setIfInBounds_toArray, List.set_cons_zero, List.set_cons_succ]
  refine wpAnyH_ready (rs := [9]) (by kernel_rfl) (by simp) (AllReadyH.cons rfl (fun K hK => ?_) (AllReadyH.nil))
  go_simp
  have e0 := (Blk.box WZ #[.int .u64 0, .bool false] 93).drew.frozen 0
  have e1 := (Blk.box WZ #[.int .u64 0, .bool false] 93).drew.frozen 1
  refine hK.out _ _ (hH.alloc _) (fun hH => ?_)
  clear hK K
  try simp only [Act.put, List.setIfInBounds_toArray, List.set_cons_zero, List.set_cons_succ]
  refine wpAnyH_ready (rs := [10]) (by kernel_rfl) (by simp) (AllReadyH.cons rfl (fun K hK => ?_) (AllReadyH.nil))
  go_simp
  clear e0 e1
  refine hK.out _ _ ((HQ.out.alloc _).drew) (fun hH => ?_)
  clear hK K
  have HE := Lib.hid (Blk.box WZ #[.int .u64 y, .bool d] 93).drew
  try simp only [Act.put, List.setIfInBounds_toArray, List.set_cons_zero, List.set_cons_succ]
  refine wpAnyH_take (i := 11) (oi := ⟨some 7, _, _, _, _, _⟩) (v := ?v10) rfl (by kernel_rfl) (by kernel_rfl) (by kernel_rfl) (fun _ _ _ h => h) (Or.inl ⟨rfl, ?c10⟩) hH ?r10
  case c10 => (intro w' _; go_simp; (try with_reducible rfl))
  try simp only [Act.put, List.setIfInBounds_toArray, List.set_cons_zero, List.set_cons_succ]
  refine wpAnyH_done (by kernel_rfl) ?_ _
  have HX1 := Lib.hid ((HX.out.alloc (.cells #[.int .u64 y, .bool d] 93)).drew)
  have HQ1 := Lib.hid hH
  have y0 := HE.out.cell 0 _ rfl
  clear hH HX HQ
  obtain ⟨g6, hg6⟩ : ∃ g, g = WZ.heap.size := ⟨_, rfl⟩
  obtain ⟨WY, hWY⟩ : ∃ v, v = (WZ.alloc (.cells #[.int .u64 y, .bool d] 93)).drew := ⟨_, rfl⟩
  simp only [← hg6, ← hWY] at *
  clear hg6 hWY
  rw [HY.out] at y0
  go_wp2_with fail
  go_at_call 34
  refine (Fl.unpack_any HF.out WY (HE0.out.below HQ1.out.bel).fl).mono ?_
  rintro e w1 ⟨rfl, hb⟩
  have HX2 := Lib.hid (HX1.out.next hb)
  have HB2 := Lib.hid ((HQ1.out.next hb).bel)
  have f0 := HX2.out.frozen 0
  have f1 := HX2.out.frozen 1
  have f2 := HX2.out.frozen 2
  obtain ⟨z0, z1, z2⟩ := Fl.gt_cells HX2.out
  clear hb y0
  go_wp2_with fail
  have HR := Fl.gt_store HX2.out s n c
  obtain ⟨r0, r1, r2⟩ := Fl.gt_cells HR
  exact bodyPost_ret (v := .tuple #[.agg (Fl.gtc s n c), .bool b]) (by simp [results, Tryz.results11, go_sem, r0, r1, r2]) rfl ⟨rfl, Fl.below_storeG HB2.out (by simp) _ _ _⟩

set_option maxHeartbeats 2000000 in
theorem drop_no {w : World} {O : Nat → Prop} {B M : Nat} {N : Int} {T : Nat → Int} {x : Int} {li : Value} {rl : List R} {fs : List Fl} {t : Nat → Int} (H : Raw w O B M N T x li rl fs t) (k : Ke) (y : Int) (d : Bool)
    (hl : ∀ w', MapAt w' M fs → (Instr.lookup 56 (.map (some M)) (kyV k) true).run Tryz.prog w' = .ok (.tuple #[enW y d, .bool false]) w') :
    Calls Tryz.prog 28 #[ptr B, kyV k] w fun e w' => e = .returned (.bool false) ∧ Below w.heap.size w w' := by
  have HL := Lib.hid hl
  have hQ : LQ w O B M N T x li rl fs t w.heap.size (Ky.kyc k.a k.b k.p k.q k.r) 45 (w.alloc (.cells (Ky.kyc k.a k.b k.p k.q k.r) 45)) := ⟨H.alloc _, Blk.box _ _ _, below_box _ _, Nat.le_refl _⟩
  have HQ := Lib.hid hQ
  clear H hl hQ
  go_enter Tryz.func28, Tryz.ntmps28
  go_wp2_with fail
  obtain ⟨WZ, hWZ⟩ : ∃ v, v = w.alloc (.cells (Ky.kyc k.a k.b k.p k.q k.r) 45) := ⟨_, rfl⟩
  rw [← hWZ] at HQ ⊢
  clear hWZ
  refine wp_region_held_drew (S := fun w' => LQ w O B M N T x li rl fs t w.heap.size (Ky.kyc k.a k.b k.p k.q k.r) 45 w') (by kernel_rfl) (HQ.out.drew) (fun hH => ?_)
  refine wpAnyH_take (i := 0) (oi := ⟨some 10, _, _, _, _, _⟩) (v := ?v1) rfl (by kernel_rfl) (by kernel_rfl) (by kernel_rfl) (fun _ _ _ h => h) (Or.inl ⟨rfl, ?c1⟩) hH ?r1
  case c1 => (intro w' _; go_simp; (try with_reducible rfl))
  try simp only [Act.put, List.setIfInBounds_toArray, List.set_cons_zero, List.set_cons_succ]
  refine wpAnyH_take (i := 1) (oi := ⟨some 11, _, _, _, _, _⟩) (v := ?v2) rfl (by kernel_rfl) (by kernel_rfl) (by kernel_rfl) (fun _ _ _ h => h) (Or.inl ⟨rfl, ?c2⟩) hH ?r2
  case c2 => (intro w' _; go_simp; (try with_reducible rfl))
  try simp only [Act.put, List.setIfInBounds_toArray, List.set_cons_zero, List.set_cons_succ]
  refine wpAnyH_take (i := 2) (oi := ⟨some 12, _, _, _, _, _⟩) (v := ?v3) rfl (by kernel_rfl) (by kernel_rfl) (by kernel_rfl) (fun _ _ _ h => h) (Or.inl ⟨rfl, ?c3⟩) hH ?r3
  case c3 => (intro w' _; go_simp; (try with_reducible rfl))
  try simp only [Act.put, List.setIfInBounds_toArray, List.set_cons_zero, List.set_cons_succ]
  refine wpAnyH_take (i := 3) (oi := ⟨some 13, _, _, _, _, _⟩) (v := ?v4) rfl (by kernel_rfl) (by kernel_rfl) (by kernel_rfl) (fun _ _ _ h => h) (Or.inl ⟨rfl, ?c4⟩) hH ?r4
  case c4 => (intro w' hS; have c19 := hS.raw.at_ 19 _ rfl; go_simp; (try with_reducible rfl))
  try simp only [Act.put, List.setIfInBounds_toArray, List.set_cons_zero, List.set_cons_succ]
  refine wpAnyH_take (i := 4) (oi := ⟨some 14, _, _, _, _, _⟩) (v := ?v5) rfl (by kernel_rfl) (by kernel_rfl) (by kernel_rfl) (fun _ _ _ h => h) (Or.inl ⟨rfl, ?c5⟩) hH ?r5
  case c5 => (intro w' hS; obtain ⟨x0, x1, x2, x3, x4⟩ := Ky.ky_cells hS.box; go_simp; (try with_reducible rfl))
  try simp only [Act.put, List.setIfInBounds_toArray, List.set_cons_zero, List.set_cons_succ]
  refine wpAnyH_take (i := 5) (oi := ⟨some 15, _, _, _, _, _⟩) (v := ?v6) rfl (by kernel_rfl) (by kernel_rfl) (by kernel_rfl) (fun _ _ _ h => h) (Or.inl ⟨rfl, ?c6⟩) hH ?r6
  case c6 => (intro w' hS; go_simp; rw [HL.out w' hS.raw.map]; simp only [Result.andThen_ok]; (try with_reducible rfl))
  try simp only [Act.put, List.setIfInBounds_toArray, List.set_cons_zero, List.set_cons_succ]
  refine wpAnyH_take (i := 6) (oi := ⟨some 9, _, _, _, _, _⟩) (v := ?v7) rfl (by kernel_rfl) (by kernel_rfl) (by kernel_rfl) (fun _ _ _ h => h) (Or.inl ⟨rfl, ?c7⟩) hH ?r7
  case c7 => (intro w' _; go_simp; (try with_reducible rfl))
  try simp only [Act.put, List.setIfInBounds_toArray, List.set_cons_zero, List.set_cons_succ]
  refine wpAnyH_take (i := 7) (oi := ⟨some 16, _, _, _, _, _⟩) (v := ?v8) rfl (by kernel_rfl) (by kernel_rfl) (by kernel_rfl) (fun _ _ _ h => h) (Or.inl ⟨rfl, ?c8⟩) hH ?r8
  case c8 => (intro w' _; go_simp; (try with_reducible rfl))
  try simp only [Act.put, List.setIfInBounds_toArray, List.set_cons_zero, List.set_cons_succ]
  refine wpAnyH_take (i := 8) (oi := ⟨some 17, _, _, _, _, _⟩) (v := ?v9) rfl (by kernel_rfl) (by kernel_rfl) (by kernel_rfl) (fun _ _ _ h => h) (Or.inl ⟨rfl, ?c9⟩) hH ?r9
  case c9 => (intro w' _; go_simp; (try with_reducible rfl))
  try simp only [Act.put, List.setIfInBounds_toArray, List.set_cons_zero, List.set_cons_succ]
  refine wpAnyH_ready (rs := [9]) (by kernel_rfl) (by simp) (AllReadyH.cons rfl (fun K hK => ?_) (AllReadyH.nil))
  go_simp
  have e0 := (Blk.box WZ #[.int .u64 0, .bool false] 93).drew.frozen 0
  have e1 := (Blk.box WZ #[.int .u64 0, .bool false] 93).drew.frozen 1
  refine hK.out _ _ (hH.alloc _) (fun hH => ?_)
  clear hK K
  try simp only [Act.put, List.setIfInBounds_toArray, List.set_cons_zero, List.set_cons_succ]
  refine wpAnyH_ready (rs := [10]) (by kernel_rfl) (by simp) (AllReadyH.cons rfl (fun K hK => ?_) (AllReadyH.nil))
  go_simp
  clear e0 e1
  refine hK.out _ _ ((HQ.out.alloc _).drew) (fun hH => ?_)
  clear hK K
  have HE := Lib.hid (Blk.box WZ #[.int .u64 y, .bool d] 93).drew
  try simp only [Act.put, List.setIfInBounds_toArray, List.set_cons_zero, List.set_cons_succ]
  refine wpAnyH_take (i := 11) (oi := ⟨some 6, _, _, _, _, _⟩) (v := ?v10) rfl (by kernel_rfl) (by kernel_rfl) (by kernel_rfl) (fun _ _ _ h => h) (Or.inl ⟨rfl, ?c10⟩) hH ?r10
  case c10 => (intro w' _; go_simp; (try with_reducible rfl))
  try simp only [Act.put, List.setIfInBounds_toArray, List.set_cons_zero, List.set_cons_succ]
  refine wpAnyH_done (by kernel_rfl) ?_ _
  have HQ1 := Lib.hid hH
  have y0 := HE.out.cell 0 _ rfl
  clear hH
  obtain ⟨g6, hg6⟩ : ∃ g, g = WZ.heap.size := ⟨_, rfl⟩
  obtain ⟨WY, hWY⟩ : ∃ v, v = (WZ.alloc (.cells #[.int .u64 y, .bool d] 93)).drew := ⟨_, rfl⟩
  simp only [← hg6, ← hWY] at *
  clear hg6 hWY
  go_wp2_with fail
  go_ret
  exact ⟨rfl, HQ1.out.bel⟩

set_option maxHeartbeats 2000000 in
theorem drop_yes {w : World} {O : Nat → Prop} {B M : Nat} {N : Int} {T : Nat → Int} {c g v : Int} {li : Value} {rl : List R} {fs : List Fl} {t : Nat → Int} (H : Raw w O B M N T (GatM.gI c g v) li rl fs t) (he : Env w) (hf : GatM.Fit c g v) (hg : g ≠ 0) (ok : Oks fs) (k : Ke) (f : Fl) (hk : find k fs = some f) :
    Calls Tryz.prog 28 #[ptr B, kyV k] w fun e w' => e = .returned (.bool true) ∧ Raw w' O B M N T (GatM.gI c (g - 1) v) li rl (drop k fs) t ∧ Only O w w' := by
  obtain ⟨x, hx⟩ : ∃ x, x = GatM.gI c g v := ⟨_, rfl⟩
  rw [← hx] at H
  obtain ⟨y, hy⟩ : ∃ y, y = FloM.gI f.c f.n f.s := ⟨_, rfl⟩
  obtain ⟨d, hd⟩ : ∃ d, d = f.dn := ⟨_, rfl⟩
  have HL : Hid (∀ w', MapAt w' M fs → (Instr.lookup 56 (.map (some M)) (kyV k) true).run Tryz.prog w' = .ok (.tuple #[enW y d, .bool true]) w') := fun w' hm => by rw [hy, hd]; exact look_some hm ok hk
  have HD : Hid (∀ w', MapAt w' M fs → ∃ w2, (Builtin.delete_ #[56, 45] 0 #[.map (some M), kyV k]).run Tryz.prog w' = .ok (.tuple #[]) w2 ∧ MapAt w2 M (drop k fs) ∧ Only (· = M) w' w2) := fun w' hm => run_drop hm ok hk _
  have HNE : Hid (w.heap.size ≠ M) := by show _ ≠ _; have := H.map.lt; omega
  have HX := Lib.hid hx
  have HF := Lib.hid hf
  have HG := Lib.hid hg
  have HEN0 := Lib.hid he
  have HRAW := Lib.hid H
  have hQ : LQ w O B M N T x li rl fs t w.heap.size (Ky.kyc k.a k.b k.p k.q k.r) 45 (w.alloc (.cells (Ky.kyc k.a k.b k.p k.q k.r) 45)) := ⟨H.alloc _, Blk.box _ _ _, below_box _ _, Nat.le_refl _⟩
  have HQ := Lib.hid hQ
  clear H hQ hx hf hg he ok hk hy hd
  go_enter Tryz.func28, Tryz.ntmps28
  go_wp2_with fail
  obtain ⟨WZ, hWZ⟩ : ∃ v, v = w.alloc (.cells (Ky.kyc k.a k.b k.p k.q k.r) 45) := ⟨_, rfl⟩
  rw [← hWZ] at HQ ⊢
  clear hWZ
  refine wp_region_held_drew (S := fun w' => LQ w O B M N T x li rl fs t w.heap.size (Ky.kyc k.a k.b k.p k.q k.r) 45 w') (by kernel_rfl) (HQ.out.drew) (fun hH => ?_)
  refine wpAnyH_take (i := 0) (oi := ⟨some 10, _, _, _, _, _⟩) (v := ?v1) rfl (by kernel_rfl) (by kernel_rfl) (by kernel_rfl) (fun _ _ _ h => h) (Or.inl ⟨rfl, ?c1⟩) hH ?r1
  case c1 => (intro w' _; go_simp; (try with_reducible rfl))
  try simp only [Act.put, List.setIfInBounds_toArray, List.set_cons_zero, List.set_cons_succ]
  refine wpAnyH_take (i := 1) (oi := ⟨some 11, _, _, _, _, _⟩) (v := ?v2) rfl (by kernel_rfl) (by kernel_rfl) (by kernel_rfl) (fun _ _ _ h => h) (Or.inl ⟨rfl, ?c2⟩) hH ?r2
  case c2 => (intro w' _; go_simp; (try with_reducible rfl))
  try simp only [Act.put, List.setIfInBounds_toArray, List.set_cons_zero, List.set_cons_succ]
  refine wpAnyH_take (i := 2) (oi := ⟨some 12, _, _, _, _, _⟩) (v := ?v3) rfl (by kernel_rfl) (by kernel_rfl) (by kernel_rfl) (fun _ _ _ h => h) (Or.inl ⟨rfl, ?c3⟩) hH ?r3
  case c3 => (intro w' _; go_simp; (try with_reducible rfl))
  try simp only [Act.put, List.setIfInBounds_toArray, List.set_cons_zero, List.set_cons_succ]
  refine wpAnyH_take (i := 3) (oi := ⟨some 13, _, _, _, _, _⟩) (v := ?v4) rfl (by kernel_rfl) (by kernel_rfl) (by kernel_rfl) (fun _ _ _ h => h) (Or.inl ⟨rfl, ?c4⟩) hH ?r4
  case c4 => (intro w' hS; have c19 := hS.raw.at_ 19 _ rfl; go_simp; (try with_reducible rfl))
  try simp only [Act.put, List.setIfInBounds_toArray, List.set_cons_zero, List.set_cons_succ]
  refine wpAnyH_take (i := 4) (oi := ⟨some 14, _, _, _, _, _⟩) (v := ?v5) rfl (by kernel_rfl) (by kernel_rfl) (by kernel_rfl) (fun _ _ _ h => h) (Or.inl ⟨rfl, ?c5⟩) hH ?r5
  case c5 => (intro w' hS; obtain ⟨x0, x1, x2, x3, x4⟩ := Ky.ky_cells hS.box; go_simp; (try with_reducible rfl))
  try simp only [Act.put, List.setIfInBounds_toArray, List.set_cons_zero, List.set_cons_succ]
  refine wpAnyH_take (i := 5) (oi := ⟨some 15, _, _, _, _, _⟩) (v := ?v6) rfl (by kernel_rfl) (by kernel_rfl) (by kernel_rfl) (fun _ _ _ h => h) (Or.inl ⟨rfl, ?c6⟩) hH ?r6
  case c6 => (intro w' hS; go_simp; rw [HL.out w' hS.raw.map]; simp only [Result.andThen_ok]; (try with_reducible rfl))
  try simp only [Act.put, List.setIfInBounds_toArray, List.set_cons_zero, List.set_cons_succ]
  refine wpAnyH_take (i := 6) (oi := ⟨some 9, _, _, _, _, _⟩) (v := ?v7) rfl (by kernel_rfl) (by kernel_rfl) (by kernel_rfl) (fun _ _ _ h => h) (Or.inl ⟨rfl, ?c7⟩) hH ?r7
  case c7 => (intro w' _; go_simp; (try with_reducible rfl))
  try simp only [Act.put, List.setIfInBounds_toArray, List.set_cons_zero, List.set_cons_succ]
  refine wpAnyH_take (i := 7) (oi := ⟨some 16, _, _, _, _, _⟩) (v := ?v8) rfl (by kernel_rfl) (by kernel_rfl) (by kernel_rfl) (fun _ _ _ h => h) (Or.inl ⟨rfl, ?c8⟩) hH ?r8
  case c8 => (intro w' _; go_simp; (try with_reducible rfl))
  try simp only [Act.put, List.setIfInBounds_toArray, List.set_cons_zero, List.set_cons_succ]
  refine wpAnyH_take (i := 8) (oi := ⟨some 17, _, _, _, _, _⟩) (v := ?v9) rfl (by kernel_rfl) (by kernel_rfl) (by kernel_rfl) (fun _ _ _ h => h) (Or.inl ⟨rfl, ?c9⟩) hH ?r9
  case c9 => (intro w' _; go_simp; (try with_reducible rfl))
  try simp only [Act.put, List.setIfInBounds_toArray, List.set_cons_zero, List.set_cons_succ]
  refine wpAnyH_ready (rs := [9]) (by kernel_rfl) (by simp) (AllReadyH.cons rfl (fun K hK => ?_) (AllReadyH.nil))
  go_simp
  have e0 := (Blk.box WZ #[.int .u64 0, .bool false] 93).drew.frozen 0
  have e1 := (Blk.box WZ #[.int .u64 0, .bool false] 93).drew.frozen 1
  refine hK.out _ _ (hH.alloc _) (fun hH => ?_)
  clear hK K
  try simp only [Act.put, List.setIfInBounds_toArray, List.set_cons_zero, List.set_cons_succ]
  refine wpAnyH_ready (rs := [10]) (by kernel_rfl) (by simp) (AllReadyH.cons rfl (fun K hK => ?_) (AllReadyH.nil))
  go_simp
  clear e0 e1
  refine hK.out _ _ ((HQ.out.alloc _).drew) (fun hH => ?_)
  clear hK K
  have HE := Lib.hid (Blk.box WZ #[.int .u64 y, .bool d] 93).drew
  try simp only [Act.put, List.setIfInBounds_toArray, List.set_cons_zero, List.set_cons_succ]
  refine wpAnyH_take (i := 11) (oi := ⟨some 6, _, _, _, _, _⟩) (v := ?v10) rfl (by kernel_rfl) (by kernel_rfl) (by kernel_rfl) (fun _ _ _ h => h) (Or.inl ⟨rfl, ?c10⟩) hH ?r10
  case c10 => (intro w' _; go_simp; (try with_reducible rfl))
  try simp only [Act.put, List.setIfInBounds_toArray, List.set_cons_zero, List.set_cons_succ]
  refine wpAnyH_done (by kernel_rfl) ?_ _
  have HQ1 := Lib.hid hH
  have y0 := HE.out.cell 0 _ rfl
  clear hH
  obtain ⟨g6, hg6⟩ : ∃ g, g = WZ.heap.size := ⟨_, rfl⟩
  obtain ⟨WY, hWY⟩ : ∃ v, v = (WZ.alloc (.cells #[.int .u64 y, .bool d] 93)).drew := ⟨_, rfl⟩
  simp only [← hg6, ← hWY] at *
  clear hg6 hWY
  go_wp2_with fail
  refine wp_region_held_drew (S := fun w' => Blk w' w.heap.size (Ky.kyc k.a k.b k.p k.q k.r) 45 ∧ w'.cell? ⟨B, 19, none⟩ = some (.map (some M))) (by kernel_rfl) (⟨HQ1.out.box.drew, HQ1.out.raw.drew.at_ 19 _ rfl⟩) (fun hH => ?_)
  refine wpAnyH_take (i := 0) (oi := ⟨some 20, _, _, _, _, _⟩) (v := ?v101) rfl (by kernel_rfl) (by kernel_rfl) (by kernel_rfl) (fun _ _ _ h => h) (Or.inl ⟨rfl, ?c101⟩) hH ?r101
  case c101 => (intro w' _; go_simp; (try with_reducible rfl))
  try simp only [Act.put, List.setIfInBounds_toArray, List.set_cons_zero, List.set_cons_succ]
  refine wpAnyH_take (i := 1) (oi := ⟨some 21, _, _, _, _, _⟩) (v := ?v102) rfl (by kernel_rfl) (by kernel_rfl) (by kernel_rfl) (fun _ _ _ h => h) (Or.inl ⟨rfl, ?c102⟩) hH ?r102
  case c102 => (intro w' _; go_simp; (try with_reducible rfl))
  try simp only [Act.put, List.setIfInBounds_toArray, List.set_cons_zero, List.set_cons_succ]
  refine wpAnyH_take (i := 2) (oi := ⟨some 22, _, _, _, _, _⟩) (v := ?v103) rfl (by kernel_rfl) (by kernel_rfl) (by kernel_rfl) (fun _ _ _ h => h) (Or.inl ⟨rfl, ?c103⟩) hH ?r103
  case c103 => (intro w' _; go_simp; (try with_reducible rfl))
  try simp only [Act.put, List.setIfInBounds_toArray, List.set_cons_zero, List.set_cons_succ]
  refine wpAnyH_take (i := 3) (oi := ⟨some 23, _, _, _, _, _⟩) (v := ?v104) rfl (by kernel_rfl) (by kernel_rfl) (by kernel_rfl) (fun _ _ _ h => h) (Or.inl ⟨rfl, ?c104⟩) hH ?r104
  case c104 => (intro w' hS; have c19 := hS.2; go_simp; (try with_reducible rfl))
  try simp only [Act.put, List.setIfInBounds_toArray, List.set_cons_zero, List.set_cons_succ]
  refine wpAnyH_take (i := 4) (oi := ⟨some 24, _, _, _, _, _⟩) (v := ?v105) rfl (by kernel_rfl) (by kernel_rfl) (by kernel_rfl) (fun _ _ _ h => h) (Or.inl ⟨rfl, ?c105⟩) hH ?r105
  case c105 => (intro w' hS; obtain ⟨x0, x1, x2, x3, x4⟩ := Ky.ky_cells hS.1; go_simp; (try with_reducible rfl))
  try simp only [Act.put, List.setIfInBounds_toArray, List.set_cons_zero, List.set_cons_succ]
  refine wpAnyH_ready (rs := [5]) (by kernel_rfl) (by simp) (AllReadyH.cons rfl (fun K hK => ?_) (AllReadyH.nil))
  obtain ⟨WD, hD, HM, ho⟩ := HD.out WY.drew HQ1.out.raw.drew.map
  have HO := Lib.hid ho
  go_simp
  have HR := Lib.hid (HQ1.out.raw.drew.turn HO.out HM)
  clear HM ho hD
  have HWD := Lib.hid ((HEN0.out.below HQ1.out.bel.drew).only HO.out (fun j e => e ▸ HRAW.out.hi _ HRAW.out.om))
  refine hK.out _ _ (⟨HQ1.out.box.drew.keep (HO.out.block _ HQ1.out.box.drew.lt HNE.out), HR.out.at_ 19 _ rfl⟩) (fun hH => ?_)
  clear hK K
  try simp only [Act.put, List.setIfInBounds_toArray, List.set_cons_zero, List.set_cons_succ]
  refine wpAnyH_done (by kernel_rfl) ?_ _
  clear hH
  have c17 := HR.out.at_ 17 _ rfl
  have f17 := HR.out.blk.frozen 17
  rw [HX.out] at c17
  go_wp2_with fail
  go_at_call 56
  refine (Ga.leave_any HF.out (.inl ⟨rfl, rfl, HG.out⟩) WD HWD.out.ga).mono ?_
  rintro e w1 ⟨rfl, hb⟩
  have HR1 := Lib.hid (HR.out.next hb)
  have HO1 := Lib.hid (((Only.of_below HQ1.out.bel.drew : Only O w WY.drew).trans HO.out (fun j e => .inl (e ▸ HRAW.out.om))).next hb)
  clear hb c17 f17
  have c17 := HR1.out.at_ 17 _ rfl
  have f17 := HR1.out.blk.frozen 17
  go_wp2_with fail
  go_ret
  exact ⟨rfl, HR1.out.word _, HO1.out.setCell (.inl HRAW.out.ob) _⟩

set_option maxHeartbeats 2000000 in
theorem delete_none {w : World} {O : Nat → Prop} {B M : Nat} {N : Int} {T : Nat → Int} {x : Int} {li : Value} {rl : List R} {fs : List Fl} {t : Nat → Int} (H : Raw w O B M N T x li rl fs t) (k : Ke) (y : Int) (d : Bool)
    (hl : ∀ w', MapAt w' M fs → (Instr.lookup 56 (.map (some M)) (kyV k) true).run Tryz.prog w' = .ok (.tuple #[enW y d, .bool false]) w') :
    Calls Tryz.prog 26 #[ptr B, kyV k] w fun e w' => e = .returned (.bool false) ∧ Below w.heap.size w w' := by
  have HL := Lib.hid hl
  have hQ : LQ w O B M N T x li rl fs t w.heap.size (Ky.kyc k.a k.b k.p k.q k.r) 45 (w.alloc (.cells (Ky.kyc k.a k.b k.p k.q k.r) 45)) := ⟨H.alloc _, Blk.box _ _ _, below_box _ _, Nat.le_refl _⟩
  have HQ := Lib.hid hQ
  clear H hl hQ
  go_enter Tryz.func26, Tryz.ntmps26
  go_wp2_with fail
  obtain ⟨WZ, hWZ⟩ : ∃ v, v = w.alloc (.cells (Ky.kyc k.a k.b k.p k.q k.r) 45) := ⟨_, rfl⟩
  rw [← hWZ] at HQ ⊢
  clear hWZ
  refine wp_region_held_drew (S := fun w' => LQ w O B M N T x li rl fs t w.heap.size (Ky.kyc k.a k.b k.p k.q k.r) 45 w') (by kernel_rfl) (HQ.out.drew) (fun hH => ?_)
  refine wpAnyH_take (i := 0) (oi := ⟨some 10, _, _, _, _, _⟩) (v := ?v1) rfl (by kernel_rfl) (by kernel_rfl) (by kernel_rfl) (fun _ _ _ h => h) (Or.inl ⟨rfl, ?c1⟩) hH ?r1
  case c1 => (intro w' _; go_simp; (try with_reducible rfl))
  try simp only [Act.put, List.setIfInBounds_toArray, List.set_cons_zero, List.set_cons_succ]
  refine wpAnyH_take (i := 1) (oi := ⟨some 11, _, _, _, _, _⟩) (v := ?v2) rfl (by kernel_rfl) (by kernel_rfl) (by kernel_rfl) (fun _ _ _ h => h) (Or.inl ⟨rfl, ?c2⟩) hH ?r2
  case c2 => (intro w' _; go_simp; (try with_reducible rfl))
  try simp only [Act.put, List.setIfInBounds_toArray, List.set_cons_zero, List.set_cons_succ]
  refine wpAnyH_take (i := 2) (oi := ⟨some 12, _, _, _, _, _⟩) (v := ?v3) rfl (by kernel_rfl) (by kernel_rfl) (by kernel_rfl) (fun _ _ _ h => h) (Or.inl ⟨rfl, ?c3⟩) hH ?r3
  case c3 => (intro w' _; go_simp; (try with_reducible rfl))
  try simp only [Act.put, List.setIfInBounds_toArray, List.set_cons_zero, List.set_cons_succ]
  refine wpAnyH_take (i := 3) (oi := ⟨some 13, _, _, _, _, _⟩) (v := ?v4) rfl (by kernel_rfl) (by kernel_rfl) (by kernel_rfl) (fun _ _ _ h => h) (Or.inl ⟨rfl, ?c4⟩) hH ?r4
  case c4 => (intro w' hS; have c19 := hS.raw.at_ 19 _ rfl; go_simp; (try with_reducible rfl))
  try simp only [Act.put, List.setIfInBounds_toArray, List.set_cons_zero, List.set_cons_succ]
  refine wpAnyH_take (i := 4) (oi := ⟨some 14, _, _, _, _, _⟩) (v := ?v5) rfl (by kernel_rfl) (by kernel_rfl) (by kernel_rfl) (fun _ _ _ h => h) (Or.inl ⟨rfl, ?c5⟩) hH ?r5
  case c5 => (intro w' hS; obtain ⟨x0, x1, x2, x3, x4⟩ := Ky.ky_cells hS.box; go_simp; (try with_reducible rfl))
  try simp only [Act.put, List.setIfInBounds_toArray, List.set_cons_zero, List.set_cons_succ]
  refine wpAnyH_take (i := 5) (oi := ⟨some 15, _, _, _, _, _⟩) (v := ?v6) rfl (by kernel_rfl) (by kernel_rfl) (by kernel_rfl) (fun _ _ _ h => h) (Or.inl ⟨rfl, ?c6⟩) hH ?r6
  case c6 => (intro w' hS; go_simp; rw [HL.out w' hS.raw.map]; simp only [Result.andThen_ok]; (try with_reducible rfl))
  try simp only [Act.put, List.setIfInBounds_toArray, List.set_cons_zero, List.set_cons_succ]
  refine wpAnyH_take (i := 6) (oi := ⟨some 9, _, _, _, _, _⟩) (v := ?v7) rfl (by kernel_rfl) (by kernel_rfl) (by kernel_rfl) (fun _ _ _ h => h) (Or.inl ⟨rfl, ?c7⟩) hH ?r7
  case c7 => (intro w' _; go_simp; (try with_reducible rfl))
  try simp only [Act.put, List.setIfInBounds_toArray, List.set_cons_zero, List.set_cons_succ]
  refine wpAnyH_take (i := 7) (oi := ⟨some 16, _, _, _, _, _⟩) (v := ?v8) rfl (by kernel_rfl) (by kernel_rfl) (by kernel_rfl) (fun _ _ _ h => h) (Or.inl ⟨rfl, ?c8⟩) hH ?r8
  case c8 => (intro w' _; go_simp; (try with_reducible rfl))
  try simp only [Act.put, List.setIfInBounds_toArray, List.set_cons_zero, List.set_cons_succ]
  refine wpAnyH_take (i := 8) (oi := ⟨some 17, _, _, _, _, _⟩) (v := ?v9) rfl (by kernel_rfl) (by kernel_rfl) (by kernel_rfl) (fun _ _ _ h => h) (Or.inl ⟨rfl, ?c9⟩) hH ?r9
  case c9 => (intro w' _; go_simp; (try with_reducible rfl))
  try simp only [Act.put, List.setIfInBounds_toArray, List.set_cons_zero, List.set_cons_succ]
  refine wpAnyH_ready (rs := [9]) (by kernel_rfl) (by simp) (AllReadyH.cons rfl (fun K hK => ?_) (AllReadyH.nil))
  go_simp
  have e0 := (Blk.box WZ #[.int .u64 0, .bool false] 93).drew.frozen 0
  have e1 := (Blk.box WZ #[.int .u64 0, .bool false] 93).drew.frozen 1
  refine hK.out _ _ (hH.alloc _) (fun hH => ?_)
  clear hK K
  try simp only [Act.put, List.setIfInBounds_toArray, List.set_cons_zero, List.set_cons_succ]
  refine wpAnyH_ready (rs := [10]) (by kernel_rfl) (by simp) (AllReadyH.cons rfl (fun K hK => ?_) (AllReadyH.nil))
  go_simp
  clear e0 e1
  refine hK.out _ _ ((HQ.out.alloc _).drew) (fun hH => ?_)
  clear hK K
  have HE := Lib.hid (Blk.box WZ #[.int .u64 y, .bool d] 93).drew
  try simp only [Act.put, List.setIfInBounds_toArray, List.set_cons_zero, List.set_cons_succ]
  refine wpAnyH_take (i := 11) (oi := ⟨some 6, _, _, _, _, _⟩) (v := ?v10) rfl (by kernel_rfl) (by kernel_rfl) (by kernel_rfl) (fun _ _ _ h => h) (Or.inl ⟨rfl, ?c10⟩) hH ?r10
  case c10 => (intro w' _; go_simp; (try with_reducible rfl))
  try simp only [Act.put, List.setIfInBounds_toArray, List.set_cons_zero, List.set_cons_succ]
  refine wpAnyH_done (by kernel_rfl) ?_ _
  have HQ1 := Lib.hid hH
  have y0 := HE.out.cell 0 _ rfl
  clear hH
  obtain ⟨g6, hg6⟩ : ∃ g, g = WZ.heap.size := ⟨_, rfl⟩
  obtain ⟨WY, hWY⟩ : ∃ v, v = (WZ.alloc (.cells #[.int .u64 y, .bool d] 93)).drew := ⟨_, rfl⟩
  simp only [← hg6, ← hWY] at *
  clear hg6 hWY
  go_wp2_with fail
  refine wp_region_held_drew (S := fun w' => Below w.heap.size w w') (by kernel_rfl) (HQ1.out.bel.drew) (fun hH => ?_)
  refine wpAnyH_take (i := 0) (oi := ⟨some 18, _, _, _, _, _⟩) (v := ?v101) rfl (by kernel_rfl) (by kernel_rfl) (by kernel_rfl) (fun _ _ _ h => h) (Or.inl ⟨rfl, ?c101⟩) hH ?r101
  case c101 => (intro w' _; go_simp; (try with_reducible rfl))
  try simp only [Act.put, List.setIfInBounds_toArray, List.set_cons_zero, List.set_cons_succ]
  refine wpAnyH_take (i := 1) (oi := ⟨some 19, _, _, _, _, _⟩) (v := ?v102) rfl (by kernel_rfl) (by kernel_rfl) (by kernel_rfl) (fun _ _ _ h => h) (Or.inl ⟨rfl, ?c102⟩) hH ?r102
  case c102 => (intro w' _; go_simp; (try with_reducible rfl))
  try simp only [Act.put, List.setIfInBounds_toArray, List.set_cons_zero, List.set_cons_succ]
  refine wpAnyH_take (i := 2) (oi := ⟨some 20, _, _, _, _, _⟩) (v := undef) rfl (by kernel_rfl) (by kernel_rfl) (by kernel_rfl) (fun _ _ _ h => h) (Or.inr ⟨rfl, rfl⟩) hH ?_
  try simp only [Act.put, List.setIfInBounds_toArray, List.set_cons_zero, List.set_cons_succ]
  refine wpAnyH_take (i := 3) (oi := ⟨some 21, _, _, _, _, _⟩) (v := undef) rfl (by kernel_rfl) (by kernel_rfl) (by kernel_rfl) (fun _ _ _ h => h) (Or.inr ⟨rfl, rfl⟩) hH ?_
  try simp only [Act.put, List.setIfInBounds_toArray, List.set_cons_zero, List.set_cons_succ]
  refine wpAnyH_take (i := 4) (oi := ⟨some 22, _, _, _, _, _⟩) (v := undef) rfl (by kernel_rfl) (by kernel_rfl) (by kernel_rfl) (fun _ _ _ h => h) (Or.inr ⟨rfl, rfl⟩) hH ?_
  try simp only [Act.put, List.setIfInBounds_toArray, List.set_cons_zero, List.set_cons_succ]
  refine wpAnyH_take (i := 5) (oi := ⟨some 23, _, _, _, _, _⟩) (v := undef) rfl (by kernel_rfl) (by kernel_rfl) (by kernel_rfl) (fun _ _ _ h => h) (Or.inr ⟨rfl, rfl⟩) hH ?_
  try simp only [Act.put, List.setIfInBounds_toArray, List.set_cons_zero, List.set_cons_succ]
  refine wpAnyH_take (i := 6) (oi := ⟨some 24, _, _, _, _, _⟩) (v := undef) rfl (by kernel_rfl) (by kernel_rfl) (by kernel_rfl) (fun _ _ _ h => h) (Or.inr ⟨rfl, rfl⟩) hH ?_
  try simp only [Act.put, List.setIfInBounds_toArray, List.set_cons_zero, List.set_cons_succ]
  refine wpAnyH_take (i := 7) (oi := ⟨some 25, _, _, _, _, _⟩) (v := undef) rfl (by kernel_rfl) (by kernel_rfl) (by kernel_rfl) (fun _ _ _ h => h) (Or.inr ⟨rfl, rfl⟩) hH ?_
  try simp only [Act.put, List.setIfInBounds_toArray, List.set_cons_zero, List.set_cons_succ]
  refine wpAnyH_take (i := 8) (oi := ⟨some 26, _, _, _, _, _⟩) (v := ?v109) rfl (by kernel_rfl) (by kernel_rfl) (by kernel_rfl) (fun _ _ _ h => h) (Or.inl ⟨rfl, ?c109⟩) hH ?r109
  case c109 => (intro w' _; go_simp; (try with_reducible rfl))
  try simp only [Act.put, List.setIfInBounds_toArray, List.set_cons_zero, List.set_cons_succ]
  refine wpAnyH_take (i := 9) (oi := ⟨some 27, _, _, _, _, _⟩) (v := ?v110) rfl (by kernel_rfl) (by kernel_rfl) (by kernel_rfl) (fun _ _ _ h => h) (Or.inl ⟨rfl, ?c110⟩) hH ?r110
  case c110 => (intro w' _; go_simp; (try with_reducible rfl))
  try simp only [Act.put, List.setIfInBounds_toArray, List.set_cons_zero, List.set_cons_succ]
  refine wpAnyH_take (i := 10) (oi := ⟨some 28, _, _, _, _, _⟩) (v := undef) rfl (by kernel_rfl) (by kernel_rfl) (by kernel_rfl) (fun _ _ _ h => h) (Or.inr ⟨rfl, rfl⟩) hH ?_
  try simp only [Act.put, List.setIfInBounds_toArray, List.set_cons_zero, List.set_cons_succ]
  refine wpAnyH_take (i := 11) (oi := ⟨some 29, _, _, _, _, _⟩) (v := undef) rfl (by kernel_rfl) (by kernel_rfl) (by kernel_rfl) (fun _ _ _ h => h) (Or.inr ⟨rfl, rfl⟩) hH ?_
  try simp only [Act.put, List.setIfInBounds_toArray, List.set_cons_zero, List.set_cons_succ]
  refine wpAnyH_take (i := 12) (oi := ⟨some 30, _, _, _, _, _⟩) (v := undef) rfl (by kernel_rfl) (by kernel_rfl) (by kernel_rfl) (fun _ _ _ h => h) (Or.inr ⟨rfl, rfl⟩) hH ?_
  try simp only [Act.put, List.setIfInBounds_toArray, List.set_cons_zero, List.set_cons_succ]
  refine wpAnyH_take (i := 13) (oi := ⟨some 31, _, _, _, _, _⟩) (v := ?v114) rfl (by kernel_rfl) (by kernel_rfl) (by kernel_rfl) (fun _ _ _ h => h) (Or.inl ⟨rfl, ?c114⟩) hH ?r114
  case c114 => (intro w' _; go_simp; (try with_reducible rfl))
  try simp only [Act.put, List.setIfInBounds_toArray, List.set_cons_zero, List.set_cons_succ]
  refine wpAnyH_take (i := 14) (oi := ⟨some 4, _, _, _, _, _⟩) (v := ?v115) rfl (by kernel_rfl) (by kernel_rfl) (by kernel_rfl) (fun _ _ _ h => h) (Or.inl ⟨rfl, ?c115⟩) hH ?r115
  case c115 => (intro w' _; go_simp; (try with_reducible rfl))
  try simp only [Act.put, List.setIfInBounds_toArray, List.set_cons_zero, List.set_cons_succ]
  refine wpAnyH_done (by kernel_rfl) ?_ _
  go_wp2_with fail
  go_ret
  exact ⟨rfl, hH⟩

set_option maxHeartbeats 4000000 in
theorem delete_live {w : World} {O : Nat → Prop} {B M : Nat} {N : Int} {T : Nat → Int} {c g v : Int} {li : Value} {rl : List R} {fs : List Fl} {t : Nat → Int} (H : Raw w O B M N T (GatM.gI c g v) li rl fs t) (he : Env w) (hf : GatM.Fit c g v) (hg : g ≠ 0) (ok : Oks fs) (k : Ke) (f : Fl) (hk : find k fs = some f) (ho : Fl.overB f.c f.n f.s c = false) :
    Calls Tryz.prog 26 #[ptr B, kyV k] w fun e w' => e = .returned (.bool false) ∧ Below w.heap.size w w' := by
  obtain ⟨x, hx⟩ : ∃ x, x = GatM.gI c g v := ⟨_, rfl⟩
  have HG0 : Hid (∀ W, Raw W O B M N T x li rl fs t → Env W → Calls Tryz.prog 20 #[ptr B] W fun e w' => e = .returned (.agg (Ga.gtc v g c)) ∧ Below W.heap.size W w') := fun W h e => gate_any (hx ▸ h) hf e
  have HDR : Hid (∀ W, Raw W O B M N T x li rl fs t → Env W → Calls Tryz.prog 28 #[ptr B, kyV k] W fun e w' => e = .returned (.bool true) ∧ Raw w' O B M N T (GatM.gI c (g - 1) v) li rl (drop k fs) t ∧ Only O W w') := fun W h e => drop_yes (hx ▸ h) e hf hg ok k f hk
  rw [← hx] at H
  obtain ⟨y, hy⟩ : ∃ y, y = FloM.gI f.c f.n f.s := ⟨_, rfl⟩
  obtain ⟨d, hd⟩ : ∃ d, d = f.dn := ⟨_, rfl⟩
  have HL : Hid (∀ w', MapAt w' M fs → (Instr.lookup 56 (.map (some M)) (kyV k) true).run Tryz.prog w' = .ok (.tuple #[enW y d, .bool true]) w') := fun w' hm => by rw [hy, hd]; exact look_some hm ok hk
  have HOV : Hid (∀ W, Env W → Calls Tryz.prog 54 #[.int .u64 y, .int .i64 c] W fun e w' => e = .returned (.bool false) ∧ Below W.heap.size W w') := fun W e => by have h := Fl.over_any (ok.ok f (find_some hk).1).fit c W e.fl; rw [ho] at h; rw [hy]; exact h
  have HEN0 := Lib.hid he
  have HRAW := Lib.hid H
  have hQ : LQ w O B M N T x li rl fs t w.heap.size (Ky.kyc k.a k.b k.p k.q k.r) 45 (w.alloc (.cells (Ky.kyc k.a k.b k.p k.q k.r) 45)) := ⟨H.alloc _, Blk.box _ _ _, below_box _ _, Nat.le_refl _⟩
  have HQ := Lib.hid hQ
  clear H hQ hx hf hg he ok hk hy hd ho
  go_enter Tryz.func26, Tryz.ntmps26
  go_wp2_with fail
  obtain ⟨WZ, hWZ⟩ : ∃ v, v = w.alloc (.cells (Ky.kyc k.a k.b k.p k.q k.r) 45) := ⟨_, rfl⟩
  rw [← hWZ] at HQ ⊢
  clear hWZ
  refine wp_region_held_drew (S := fun w' => LQ w O B M N T x li rl fs t w.heap.size (Ky.kyc k.a k.b k.p k.q k.r) 45 w') (by kernel_rfl) (HQ.out.drew) (fun hH => ?_)
  refine wpAnyH_take (i := 0) (oi := ⟨some 10, _, _, _, _, _⟩) (v := ?v1) rfl (by kernel_rfl) (by kernel_rfl) (by kernel_rfl) (fun _ _ _ h => h) (Or.inl ⟨rfl, ?c1⟩) hH ?r1
  case c1 => (intro w' _; go_simp; (try with_reducible rfl))
  try simp only [Act.put, List.setIfInBounds_toArray, List.set_cons_zero, List.set_cons_succ]
  refine wpAnyH_take (i := 1) (oi := ⟨some 11, _, _, _, _, _⟩) (v := ?v2) rfl (by kernel_rfl) (by kernel_rfl) (by kernel_rfl) (fun _ _ _ h => h) (Or.inl ⟨rfl, ?c2⟩) hH ?r2
  case c2 => (intro w' _; go_simp; (try with_reducible rfl))
  try simp only [Act.put, List.setIfInBounds_toArray, List.set_cons_zero, List.set_cons_succ]
  refine wpAnyH_take (i := 2) (oi := ⟨some 12, _, _, _, _, _⟩) (v := ?v3) rfl (by kernel_rfl) (by kernel_rfl) (by kernel_rfl) (fun _ _ _ h => h) (Or.inl ⟨rfl, ?c3⟩) hH ?r3
  case c3 => (intro w' _; go_simp; (try with_reducible rfl))
  try simp only [Act.put, List.setIfInBounds_toArray, List.set_cons_zero, List.set_cons_succ]
  refine wpAnyH_take (i := 3) (oi := ⟨some 13, _, _, _, _, _⟩) (v := ?v4) rfl (by kernel_rfl) (by kernel_rfl) (by kernel_rfl) (fun _ _ _ h => h) (Or.inl ⟨rfl, ?c4⟩) hH ?r4
  case c4 => (intro w' hS; have c19 := hS.raw.at_ 19 _ rfl; go_simp; (try with_reducible rfl))
  try simp only [Act.put, List.setIfInBounds_toArray, List.set_cons_zero, List.set_cons_succ]
  refine wpAnyH_take (i := 4) (oi := ⟨some 14, _, _, _, _, _⟩) (v := ?v5) rfl (by kernel_rfl) (by kernel_rfl) (by kernel_rfl) (fun _ _ _ h => h) (Or.inl ⟨rfl, ?c5⟩) hH ?r5
  case c5 => (intro w' hS; obtain ⟨x0, x1, x2, x3, x4⟩ := Ky.ky_cells hS.box; go_simp; (try with_reducible rfl))
  try simp only [Act.put, List.setIfInBounds_toArray, List.set_cons_zero, List.set_cons_succ]
  refine wpAnyH_take (i := 5) (oi := ⟨some 15, _, _, _, _, _⟩) (v := ?v6) rfl (by kernel_rfl) (by kernel_rfl) (by kernel_rfl) (fun _ _ _ h => h) (Or.inl ⟨rfl, ?c6⟩) hH ?r6
  case c6 => (intro w' hS; go_simp; rw [HL.out w' hS.raw.map]; simp only [Result.andThen_ok]; (try with_reducible rfl))
  try simp only [Act.put, List.setIfInBounds_toArray, List.set_cons_zero, List.set_cons_succ]
  refine wpAnyH_take (i := 6) (oi := ⟨some 9, _, _, _, _, _⟩) (v := ?v7) rfl (by kernel_rfl) (by kernel_rfl) (by kernel_rfl) (fun _ _ _ h => h) (Or.inl ⟨rfl, ?c7⟩) hH ?r7
  case c7 => (intro w' _; go_simp; (try with_reducible rfl))
  try simp only [Act.put, List.setIfInBounds_toArray, List.set_cons_zero, List.set_cons_succ]
  refine wpAnyH_take (i := 7) (oi := ⟨some 16, _, _, _, _, _⟩) (v := ?v8) rfl (by kernel_rfl) (by kernel_rfl) (by kernel_rfl) (fun _ _ _ h => h) (Or.inl ⟨rfl, ?c8⟩) hH ?r8
  case c8 => (intro w' _; go_simp; (try with_reducible rfl))
  try simp only [Act.put, List.setIfInBounds_toArray, List.set_cons_zero, List.set_cons_succ]
  refine wpAnyH_take (i := 8) (oi := ⟨some 17, _, _, _, _, _⟩) (v := ?v9) rfl (by kernel_rfl) (by kernel_rfl) (by kernel_rfl) (fun _ _ _ h => h) (Or.inl ⟨rfl, ?c9⟩) hH ?r9
  case c9 => (intro w' _; go_simp; (try with_reducible rfl))
  try simp only [Act.put, List.setIfInBounds_toArray, List.set_cons_zero, List.set_cons_succ]
  refine wpAnyH_ready (rs := [9]) (by kernel_rfl) (by simp) (AllReadyH.cons rfl (fun K hK => ?_) (AllReadyH.nil))
  go_simp
  have e0 := (Blk.box WZ #[.int .u64 0, .bool false] 93).drew.frozen 0
  have e1 := (Blk.box WZ #[.int .u64 0, .bool false] 93).drew.frozen 1
  refine hK.out _ _ (hH.alloc _) (fun hH => ?_)
  clear hK K
  try simp only [Act.put, List.setIfInBounds_toArray, List.set_cons_zero, List.set_cons_succ]
  refine wpAnyH_ready (rs := [10]) (by kernel_rfl) (by simp) (AllReadyH.cons rfl (fun K hK => ?_) (AllReadyH.nil))
  go_simp
  clear e0 e1
  refine hK.out _ _ ((HQ.out.alloc _).drew) (fun hH => ?_)
  clear hK K
  have HE := Lib.hid (Blk.box WZ #[.int .u64 y, .bool d] 93).drew
  try simp only [Act.put, List.setIfInBounds_toArray, List.set_cons_zero, List.set_cons_succ]
  refine wpAnyH_take (i := 11) (oi := ⟨some 6, _, _, _, _, _⟩) (v := ?v10) rfl (by kernel_rfl) (by kernel_rfl) (by kernel_rfl) (fun _ _ _ h => h) (Or.inl ⟨rfl, ?c10⟩) hH ?r10
  case c10 => (intro w' _; go_simp; (try with_reducible rfl))
  try simp only [Act.put, List.setIfInBounds_toArray, List.set_cons_zero, List.set_cons_succ]
  refine wpAnyH_done (by kernel_rfl) ?_ _
  have HQ1 := Lib.hid hH
  have y0 := HE.out.cell 0 _ rfl
  clear hH
  obtain ⟨g6, hg6⟩ : ∃ g, g = WZ.heap.size := ⟨_, rfl⟩
  obtain ⟨WY, hWY⟩ : ∃ v, v = (WZ.alloc (.cells #[.int .u64 y, .bool d] 93)).drew := ⟨_, rfl⟩
  simp only [← hg6, ← hWY] at *
  clear hg6 hWY
  go_wp2_with fail
  refine wp_region_held_drew (S := fun w' => Blk w' w.heap.size (Ky.kyc k.a k.b k.p k.q k.r) 45 ∧ Blk w' g6 #[.int .u64 y, .bool d] 93) (by kernel_rfl) (⟨HQ1.out.box.drew, HE.out.drew⟩) (fun hH => ?_)
  refine wpAnyH_take (i := 0) (oi := ⟨some 18, _, _, _, _, _⟩) (v := ?v101) rfl (by kernel_rfl) (by kernel_rfl) (by kernel_rfl) (fun _ _ _ h => h) (Or.inl ⟨rfl, ?c101⟩) hH ?r101
  case c101 => (intro w' _; go_simp; (try with_reducible rfl))
  try simp only [Act.put, List.setIfInBounds_toArray, List.set_cons_zero, List.set_cons_succ]
  refine wpAnyH_take (i := 1) (oi := ⟨some 19, _, _, _, _, _⟩) (v := ?v102) rfl (by kernel_rfl) (by kernel_rfl) (by kernel_rfl) (fun _ _ _ h => h) (Or.inl ⟨rfl, ?c102⟩) hH ?r102
  case c102 => (intro w' _; go_simp; (try with_reducible rfl))
  try simp only [Act.put, List.setIfInBounds_toArray, List.set_cons_zero, List.set_cons_succ]
  refine wpAnyH_take (i := 2) (oi := ⟨some 20, _, _, _, _, _⟩) (v := ?v103) rfl (by kernel_rfl) (by kernel_rfl) (by kernel_rfl) (fun _ _ _ h => h) (Or.inl ⟨rfl, ?c103⟩) hH ?r103
  case c103 => (intro w' _; go_simp; (try with_reducible rfl))
  try simp only [Act.put, List.setIfInBounds_toArray, List.set_cons_zero, List.set_cons_succ]
  refine wpAnyH_take (i := 3) (oi := ⟨some 21, _, _, _, _, _⟩) (v := ?v104) rfl (by kernel_rfl) (by kernel_rfl) (by kernel_rfl) (fun _ _ _ h => h) (Or.inl ⟨rfl, ?c104⟩) hH ?r104
  case c104 => (intro w' hS; have y0 := hS.2.cell 0 _ rfl; go_simp; (try with_reducible rfl))
  try simp only [Act.put, List.setIfInBounds_toArray, List.set_cons_zero, List.set_cons_succ]
  refine wpAnyH_take (i := 4) (oi := ⟨some 22, _, _, _, _, _⟩) (v := ?v105) rfl (by kernel_rfl) (by kernel_rfl) (by kernel_rfl) (fun _ _ _ h => h) (Or.inl ⟨rfl, ?c105⟩) hH ?r105
  case c105 => (intro w' _; go_simp; (try with_reducible rfl))
  try simp only [Act.put, List.setIfInBounds_toArray, List.set_cons_zero, List.set_cons_succ]
  refine wpAnyH_ready (rs := [5]) (by kernel_rfl) (by simp) (AllReadyH.cons rfl (fun K hK => ?_) (AllReadyH.nil))
  have HQ2 := Lib.hid HQ1.out.drew
  go_simp
  go_at_call 20
  refine (HG0.out _ HQ2.out.raw (HEN0.out.below HQ2.out.bel)).mono ?_
  rintro e w1 ⟨rfl, hbp⟩
  refine hK.out _ _ (⟨hH.1.next hbp, hH.2.next hbp⟩) (fun hH => ?_)
  clear hK K
  replace HQ2 := Lib.hid (HQ2.out.next hbp)
  clear hbp
  try simp only [Act.put, List.setIfInBounds_toArray, List.set_cons_zero, List.set_cons_succ]
  refine wpAnyH_take (i := 6) (oi := ⟨some 24, _, _, _, _, _⟩) (v := ?v106) rfl (by kernel_rfl) (by kernel_rfl) (by kernel_rfl) (fun _ _ _ h => h) (Or.inl ⟨rfl, ?c106⟩) hH ?r106
  case c106 => (intro w' hS; go_simp; rw [Ga.field2]; simp only [Result.andThen_ok]; (try with_reducible rfl))
  try simp only [Act.put, List.setIfInBounds_toArray, List.set_cons_zero, List.set_cons_succ]
  refine wpAnyH_ready (rs := [7]) (by kernel_rfl) (by simp) (AllReadyH.cons rfl (fun K hK => ?_) (AllReadyH.nil))
  go_simp
  go_at_call 54
  refine (HOV.out _ (HEN0.out.below HQ2.out.bel)).mono ?_
  rintro e w2 ⟨rfl, hbp⟩
  refine hK.out _ _ (⟨hH.1.next hbp, hH.2.next hbp⟩) (fun hH => ?_)
  clear hK K
  replace HQ2 := Lib.hid (HQ2.out.next hbp)
  clear hbp
  try simp only [Act.put, List.setIfInBounds_toArray, List.set_cons_zero, List.set_cons_succ]
  refine wpAnyH_take (i := 8) (oi := ⟨some 26, _, _, _, _, _⟩) (v := ?v107) rfl (by kernel_rfl) (by kernel_rfl) (by kernel_rfl) (fun _ _ _ h => h) (Or.inl ⟨rfl, ?c107⟩) hH ?r107
  case c107 => (intro w' _; go_simp; (try with_reducible rfl))
  try simp only [Act.put, List.setIfInBounds_toArray, List.set_cons_zero, List.set_cons_succ]
  refine wpAnyH_take (i := 9) (oi := ⟨some 27, _, _, _, _, _⟩) (v := ?v108) rfl (by kernel_rfl) (by kernel_rfl) (by kernel_rfl) (fun _ _ _ h => h) (Or.inl ⟨rfl, ?c108⟩) hH ?r108
  case c108 => (intro w' _; go_simp; (try with_reducible rfl))
  try simp only [Act.put, List.setIfInBounds_toArray, List.set_cons_zero, List.set_cons_succ]
  refine wpAnyH_take (i := 10) (oi := ⟨some 28, _, _, _, _, _⟩) (v := undef) rfl (by kernel_rfl) (by kernel_rfl) (by kernel_rfl) (fun _ _ _ h => h) (Or.inr ⟨rfl, rfl⟩) hH ?_
  try simp only [Act.put, List.setIfInBounds_toArray, List.set_cons_zero, List.set_cons_succ]
  refine wpAnyH_take (i := 11) (oi := ⟨some 29, _, _, _, _, _⟩) (v := undef) rfl (by kernel_rfl) (by kernel_rfl) (by kernel_rfl) (fun _ _ _ h => h) (Or.inr ⟨rfl, rfl⟩) hH ?_
  try simp only [Act.put, List.setIfInBounds_toArray, List.set_cons_zero, List.set_cons_succ]
  refine wpAnyH_take (i := 12) (oi := ⟨some 30, _, _, _, _, _⟩) (v := undef) rfl (by kernel_rfl) (by kernel_rfl) (by kernel_rfl) (fun _ _ _ h => h) (Or.inr ⟨rfl, rfl⟩) hH ?_
  try simp only [Act.put, List.setIfInBounds_toArray, List.set_cons_zero, List.set_cons_succ]
  refine wpAnyH_take (i := 13) (oi := ⟨some 31, _, _, _, _, _⟩) (v := ?v112) rfl (by kernel_rfl) (by kernel_rfl) (by kernel_rfl) (fun _ _ _ h => h) (Or.inl ⟨rfl, ?c112⟩) hH ?r112
  case c112 => (intro w' _; go_simp; (try with_reducible rfl))
  try simp only [Act.put, List.setIfInBounds_toArray, List.set_cons_zero, List.set_cons_succ]
  refine wpAnyH_take (i := 14) (oi := ⟨some 4, _, _, _, _, _⟩) (v := ?v113) rfl (by kernel_rfl) (by kernel_rfl) (by kernel_rfl) (fun _ _ _ h => h) (Or.inl ⟨rfl, ?c113⟩) hH ?r113
  case c113 => (intro w' _; go_simp; (try with_reducible rfl))
  try simp only [Act.put, List.setIfInBounds_toArray, List.set_cons_zero, List.set_cons_succ]
  refine wpAnyH_done (by kernel_rfl) ?_ _
  go_wp2_with fail
  go_ret
  exact ⟨rfl, HQ2.out.bel⟩

set_option maxHeartbeats 4000000 in
theorem delete_over {w : World} {O : Nat → Prop} {B M : Nat} {N : Int} {T : Nat → Int} {c g v : Int} {li : Value} {rl : List R} {fs : List Fl} {t : Nat → Int} (H : Raw w O B M N T (GatM.gI c g v) li rl fs t) (he : Env w) (hf : GatM.Fit c g v) (hg : g ≠ 0) (ok : Oks fs) (k : Ke) (f : Fl) (hk : find k fs = some f) (ho : Fl.overB f.c f.n f.s c = true) :
    Calls Tryz.prog 26 #[ptr B, kyV k] w fun e w' => e = .returned (.bool true) ∧ Raw w' O B M N T (GatM.gI c (g - 1) v) li rl (drop k fs) t ∧ Only O w w' := by
  have HNK : Hid (¬ O w.heap.size) := fun e => by have := H.lt _ e; omega
  have HNL : Hid (∀ j, w.heap.size ≤ j → ¬ O j) := fun j hj e => by have := H.lt _ e; omega
  obtain ⟨x, hx⟩ : ∃ x, x = GatM.gI c g v := ⟨_, rfl⟩
  have HG0 : Hid (∀ W, Raw W O B M N T x li rl fs t → Env W → Calls Tryz.prog 20 #[ptr B] W fun e w' => e = .returned (.agg (Ga.gtc v g c)) ∧ Below W.heap.size W w') := fun W h e => gate_any (hx ▸ h) hf e
  have HDR : Hid (∀ W, Raw W O B M N T x li rl fs t → Env W → Calls Tryz.prog 28 #[ptr B, kyV k] W fun e w' => e = .returned (.bool true) ∧ Raw w' O B M N T (GatM.gI c (g - 1) v) li rl (drop k fs) t ∧ Only O W w') := fun W h e => drop_yes (hx ▸ h) e hf hg ok k f hk
  rw [← hx] at H
  obtain ⟨y, hy⟩ : ∃ y, y = FloM.gI f.c f.n f.s := ⟨_, rfl⟩
  obtain ⟨d, hd⟩ : ∃ d, d = f.dn := ⟨_, rfl⟩
  have HL : Hid (∀ w', MapAt w' M fs → (Instr.lookup 56 (.map (some M)) (kyV k) true).run Tryz.prog w' = .ok (.tuple #[enW y d, .bool true]) w') := fun w' hm => by rw [hy, hd]; exact look_some hm ok hk
  have HOV : Hid (∀ W, Env W → Calls Tryz.prog 54 #[.int .u64 y, .int .i64 c] W fun e w' => e = .returned (.bool true) ∧ Below W.heap.size W w') := fun W e => by have h := Fl.over_any (ok.ok f (find_some hk).1).fit c W e.fl; rw [ho] at h; rw [hy]; exact h
  have HEN0 := Lib.hid he
  have HRAW := Lib.hid H
  have hQ : LQ w O B M N T x li rl fs t w.heap.size (Ky.kyc k.a k.b k.p k.q k.r) 45 (w.alloc (.cells (Ky.kyc k.a k.b k.p k.q k.r) 45)) := ⟨H.alloc _, Blk.box _ _ _, below_box _ _, Nat.le_refl _⟩
  have HQ := Lib.hid hQ
  clear H hQ hx hf hg he ok hk hy hd ho
  go_enter Tryz.func26, Tryz.ntmps26
  go_wp2_with fail
  obtain ⟨WZ, hWZ⟩ : ∃ v, v = w.alloc (.cells (Ky.kyc k.a k.b k.p k.q k.r) 45) := ⟨_, rfl⟩
  rw [← hWZ] at HQ ⊢
  clear hWZ
  refine wp_region_held_drew (S := fun w' => LQ w O B M N T x li rl fs t w.heap.size (Ky.kyc k.a k.b k.p k.q k.r) 45 w') (by kernel_rfl) (HQ.out.drew) (fun hH => ?_)
  refine wpAnyH_take (i := 0) (oi := ⟨some 10, _, _, _, _, _⟩) (v := ?v1) rfl (by kernel_rfl) (by kernel_rfl) (by kernel_rfl) (fun _ _ _ h => h) (Or.inl ⟨rfl, ?c1⟩) hH ?r1
  case c1 => (intro w' _; go_simp; (try with_reducible rfl))
  try simp only [Act.put, List.setIfInBounds_toArray, List.set_cons_zero, List.set_cons_succ]
  refine wpAnyH_take (i := 1) (oi := ⟨some 11, _, _, _, _, _⟩) (v := ?v2) rfl (by kernel_rfl) (by kernel_rfl) (by kernel_rfl) (fun _ _ _ h => h) (Or.inl ⟨rfl, ?c2⟩) hH ?r2
  case c2 => (intro w' _; go_simp; (try with_reducible rfl))
  try simp only [Act.put, List.setIfInBounds_toArray, List.set_cons_zero, List.set_cons_succ]
  refine wpAnyH_take (i := 2) (oi := ⟨some 12, _, _, _, _, _⟩) (v := ?v3) rfl (by kernel_rfl) (by kernel_rfl) (by kernel_rfl) (fun _ _ _ h => h) (Or.inl ⟨rfl, ?c3⟩) hH ?r3
  case c3 => (intro w' _; go_simp; (try with_reducible rfl))
  try simp only [Act.put, List.setIfInBounds_toArray, List.set_cons_zero, List.set_cons_succ]
  refine wpAnyH_take (i := 3) (oi := ⟨some 13, _, _, _, _, _⟩) (v := ?v4) rfl (by kernel_rfl) (by kernel_rfl) (by kernel_rfl) (fun _ _ _ h => h) (Or.inl ⟨rfl, ?c4⟩) hH ?r4
  case c4 => (intro w' hS; have c19 := hS.raw.at_ 19 _ rfl; go_simp; (try with_reducible rfl))
  try simp only [Act.put, List.setIfInBounds_toArray, List.set_cons_zero, List.set_cons_succ]
  refine wpAnyH_take (i := 4) (oi := ⟨some 14, _, _, _, _, _⟩) (v := ?v5) rfl (by kernel_rfl) (by kernel_rfl) (by kernel_rfl) (fun _ _ _ h => h) (Or.inl ⟨rfl, ?c5⟩) hH ?r5
  case c5 => (intro w' hS; obtain ⟨x0, x1, x2, x3, x4⟩ := Ky.ky_cells hS.box; go_simp; (try with_reducible rfl))
  try simp only [Act.put, List.setIfInBounds_toArray, List.set_cons_zero, List.set_cons_succ]
  refine wpAnyH_take (i := 5) (oi := ⟨some 15, _, _, _, _, _⟩) (v := ?v6) rfl (by kernel_rfl) (by kernel_rfl) (by kernel_rfl) (fun _ _ _ h => h) (Or.inl ⟨rfl, ?c6⟩) hH ?r6
  case c6 => (intro w' hS; go_simp; rw [HL.out w' hS.raw.map]; simp only [Result.andThen_ok]; (try with_reducible rfl))
  try simp only [Act.put, List.setIfInBounds_toArray, List.set_cons_zero, List.set_cons_succ]
  refine wpAnyH_take (i := 6) (oi := ⟨some 9, _, _, _, _, _⟩) (v := ?v7) rfl (by kernel_rfl) (by kernel_rfl) (by kernel_rfl) (fun _ _ _ h => h) (Or.inl ⟨rfl, ?c7⟩) hH ?r7
  case c7 => (intro w' _; go_simp; (try with_reducible rfl))
  try simp only [Act.put, List.setIfInBounds_toArray, List.set_cons_zero, List.set_cons_succ]
  refine wpAnyH_take (i := 7) (oi := ⟨some 16, _, _, _, _, _⟩) (v := ?v8) rfl (by kernel_rfl) (by kernel_rfl) (by kernel_rfl) (fun _ _ _ h => h) (Or.inl ⟨rfl, ?c8⟩) hH ?r8
  case c8 => (intro w' _; go_simp; (try with_reducible rfl))
  try simp only [Act.put, List.setIfInBounds_toArray, List.set_cons_zero, List.set_cons_succ]
  refine wpAnyH_take (i := 8) (oi := ⟨some 17, _, _, _, _, _⟩) (v := ?v9) rfl (by kernel_rfl) (by kernel_rfl) (by kernel_rfl) (fun _ _ _ h => h) (Or.inl ⟨rfl, ?c9⟩) hH ?r9
  case c9 => (intro w' _; go_simp; (try with_reducible rfl))
  try simp only [Act.put, List.setIfInBounds_toArray, List.set_cons_zero, List.set_cons_succ]
  refine wpAnyH_ready (rs := [9]) (by kernel_rfl) (by simp) (AllReadyH.cons rfl (fun K hK => ?_) (AllReadyH.nil))
  go_simp
  have e0 := (Blk.box WZ #[.int .u64 0, .bool false] 93).drew.frozen 0
  have e1 := (Blk.box WZ #[.int .u64 0, .bool false] 93).drew.frozen 1
  refine hK.out _ _ (hH.alloc _) (fun hH => ?_)
  clear hK K
  try simp only [Act.put, List.setIfInBounds_toArray, List.set_cons_zero, List.set_cons_succ]
  refine wpAnyH_ready (rs := [10]) (by kernel_rfl) (by simp) (AllReadyH.cons rfl (fun K hK => ?_) (AllReadyH.nil))
  go_simp
  clear e0 e1
  refine hK.out _ _ ((HQ.out.alloc _).drew) (fun hH => ?_)
  clear hK K
  have HE := Lib.hid (Blk.box WZ #[.int .u64 y, .bool d] 93).drew
  try simp only [Act.put, List.setIfInBounds_toArray, List.set_cons_zero, List.set_cons_succ]
  refine wpAnyH_take (i := 11) (oi := ⟨some 6, _, _, _, _, _⟩) (v := ?v10) rfl (by kernel_rfl) (by kernel_rfl) (by kernel_rfl) (fun _ _ _ h => h) (Or.inl ⟨rfl, ?c10⟩) hH ?r10
  case c10 => (intro w' _; go_simp; (try with_reducible rfl))
  try simp only [Act.put, List.setIfInBounds_toArray, List.set_cons_zero, List.set_cons_succ]
  refine wpAnyH_done (by kernel_rfl) ?_ _
  have HQ1 := Lib.hid hH
  have y0 := HE.out.cell 0 _ rfl
  clear hH
  obtain ⟨g6, hg6⟩ : ∃ g, g = WZ.heap.size := ⟨_, rfl⟩
  obtain ⟨WY, hWY⟩ : ∃ v, v = (WZ.alloc (.cells #[.int .u64 y, .bool d] 93)).drew := ⟨_, rfl⟩
  have HNG : Hid (¬ O g6) := HNL.out _ (by rw [hg6]; exact HQ.out.bel.size)
  simp only [← hg6, ← hWY] at *
  clear hg6 hWY
  go_wp2_with fail
  refine wp_region_held_drew (S := fun w' => Blk w' w.heap.size (Ky.kyc k.a k.b k.p k.q k.r) 45 ∧ Blk w' g6 #[.int .u64 y, .bool d] 93) (by kernel_rfl) (⟨HQ1.out.box.drew, HE.out.drew⟩) (fun hH => ?_)
  refine wpAnyH_take (i := 0) (oi := ⟨some 18, _, _, _, _, _⟩) (v := ?v101) rfl (by kernel_rfl) (by kernel_rfl) (by kernel_rfl) (fun _ _ _ h => h) (Or.inl ⟨rfl, ?c101⟩) hH ?r101
  case c101 => (intro w' _; go_simp; (try with_reducible rfl))
  try simp only [Act.put, List.setIfInBounds_toArray, List.set_cons_zero, List.set_cons_succ]
  refine wpAnyH_take (i := 1) (oi := ⟨some 19, _, _, _, _, _⟩) (v := ?v102) rfl (by kernel_rfl) (by kernel_rfl) (by kernel_rfl) (fun _ _ _ h => h) (Or.inl ⟨rfl, ?c102⟩) hH ?r102
  case c102 => (intro w' _; go_simp; (try with_reducible rfl))
  try simp only [Act.put, List.setIfInBounds_toArray, List.set_cons_zero, List.set_cons_succ]
  refine wpAnyH_take (i := 2) (oi := ⟨some 20, _, _, _, _, _⟩) (v := ?v103) rfl (by kernel_rfl) (by kernel_rfl) (by kernel_rfl) (fun _ _ _ h => h) (Or.inl ⟨rfl, ?c103⟩) hH ?r103
  case c103 => (intro w' _; go_simp; (try with_reducible rfl))
  try simp only [Act.put, List.setIfInBounds_toArray, List.set_cons_zero, List.set_cons_succ]
  refine wpAnyH_take (i := 3) (oi := ⟨some 21, _, _, _, _, _⟩) (v := ?v104) rfl (by kernel_rfl) (by kernel_rfl) (by kernel_rfl) (fun _ _ _ h => h) (Or.inl ⟨rfl, ?c104⟩) hH ?r104
  case c104 => (intro w' hS; have y0 := hS.2.cell 0 _ rfl; go_simp; (try with_reducible rfl))
  try simp only [Act.put, List.setIfInBounds_toArray, List.set_cons_zero, List.set_cons_succ]
  refine wpAnyH_take (i := 4) (oi := ⟨some 22, _, _, _, _, _⟩) (v := ?v105) rfl (by kernel_rfl) (by kernel_rfl) (by kernel_rfl) (fun _ _ _ h => h) (Or.inl ⟨rfl, ?c105⟩) hH ?r105
  case c105 => (intro w' _; go_simp; (try with_reducible rfl))
  try simp only [Act.put, List.setIfInBounds_toArray, List.set_cons_zero, List.set_cons_succ]
  refine wpAnyH_ready (rs := [5]) (by kernel_rfl) (by simp) (AllReadyH.cons rfl (fun K hK => ?_) (AllReadyH.nil))
  have HQ2 := Lib.hid HQ1.out.drew
  go_simp
  go_at_call 20
  refine (HG0.out _ HQ2.out.raw (HEN0.out.below HQ2.out.bel)).mono ?_
  rintro e w1 ⟨rfl, hbp⟩
  refine hK.out _ _ (⟨hH.1.next hbp, hH.2.next hbp⟩) (fun hH => ?_)
  clear hK K
  replace HQ2 := Lib.hid (HQ2.out.next hbp)
  clear hbp
  try simp only [Act.put, List.setIfInBounds_toArray, List.set_cons_zero, List.set_cons_succ]
  refine wpAnyH_take (i := 6) (oi := ⟨some 24, _, _, _, _, _⟩) (v := ?v106) rfl (by kernel_rfl) (by kernel_rfl) (by kernel_rfl) (fun _ _ _ h => h) (Or.inl ⟨rfl, ?c106⟩) hH ?r106
  case c106 => (intro w' hS; go_simp; rw [Ga.field2]; simp only [Result.andThen_ok]; (try with_reducible rfl))
  try simp only [Act.put, List.setIfInBounds_toArray, List.set_cons_zero, List.set_cons_succ]
  refine wpAnyH_ready (rs := [7]) (by kernel_rfl) (by simp) (AllReadyH.cons rfl (fun K hK => ?_) (AllReadyH.nil))
  go_simp
  go_at_call 54
  refine (HOV.out _ (HEN0.out.below HQ2.out.bel)).mono ?_
  rintro e w2 ⟨rfl, hbp⟩
  refine hK.out _ _ (⟨hH.1.next hbp, hH.2.next hbp⟩) (fun hH => ?_)
  clear hK K
  replace HQ2 := Lib.hid (HQ2.out.next hbp)
  clear hbp
  try simp only [Act.put, List.setIfInBounds_toArray, List.set_cons_zero, List.set_cons_succ]
  refine wpAnyH_take (i := 8) (oi := ⟨some 26, _, _, _, _, _⟩) (v := ?v107) rfl (by kernel_rfl) (by kernel_rfl) (by kernel_rfl) (fun _ _ _ h => h) (Or.inl ⟨rfl, ?c107⟩) hH ?r107
  case c107 => (intro w' _; go_simp; (try with_reducible rfl))
  try simp only [Act.put, List.setIfInBounds_toArray, List.set_cons_zero, List.set_cons_succ]
  refine wpAnyH_take (i := 9) (oi := ⟨some 27, _, _, _, _, _⟩) (v := ?v108) rfl (by kernel_rfl) (by kernel_rfl) (by kernel_rfl) (fun _ _ _ h => h) (Or.inl ⟨rfl, ?c108⟩) hH ?r108
  case c108 => (intro w' _; go_simp; (try with_reducible rfl))
  try simp only [Act.put, List.setIfInBounds_toArray, List.set_cons_zero, List.set_cons_succ]
  refine wpAnyH_take (i := 10) (oi := ⟨some 28, _, _, _, _, _⟩) (v := ?v109) rfl (by kernel_rfl) (by kernel_rfl) (by kernel_rfl) (fun _ _ _ h => h) (Or.inl ⟨rfl, ?c109⟩) hH ?r109
  case c109 => (intro w' _; go_simp; (try with_reducible rfl))
  try simp only [Act.put, List.setIfInBounds_toArray, List.set_cons_zero, List.set_cons_succ]
  refine wpAnyH_take (i := 11) (oi := ⟨some 29, _, _, _, _, _⟩) (v := ?v110) rfl (by kernel_rfl) (by kernel_rfl) (by kernel_rfl) (fun _ _ _ h => h) (Or.inl ⟨rfl, ?c110⟩) hH ?r110
  case c110 => (intro w' hS; obtain ⟨x0, x1, x2, x3, x4⟩ := Ky.ky_cells hS.1; go_simp; (try with_reducible rfl))
  try simp only [Act.put, List.setIfInBounds_toArray, List.set_cons_zero, List.set_cons_succ]
  refine wpAnyH_ready (rs := [12]) (by kernel_rfl) (by simp) (AllReadyH.cons rfl (fun K hK => ?_) (AllReadyH.nil))
  go_simp
  go_at_call 28
  refine (HDR.out _ HQ2.out.raw (HEN0.out.below HQ2.out.bel)).mono ?_
  rintro e w3 ⟨rfl, hr3, ho3⟩
  have HR3 := Lib.hid hr3
  have HO3 := Lib.hid ho3
  clear hr3 ho3
  refine hK.out _ _ (⟨Blk.only hH.1 HO3.out HNK.out, Blk.only hH.2 HO3.out HNG.out⟩) (fun hH => ?_)
  clear hK K
  try simp only [Act.put, List.setIfInBounds_toArray, List.set_cons_zero, List.set_cons_succ]
  refine wpAnyH_take (i := 13) (oi := ⟨some 31, _, _, _, _, _⟩) (v := ?v111) rfl (by kernel_rfl) (by kernel_rfl) (by kernel_rfl) (fun _ _ _ h => h) (Or.inl ⟨rfl, ?c111⟩) hH ?r111
  case c111 => (intro w' _; go_simp; (try with_reducible rfl))
  try simp only [Act.put, List.setIfInBounds_toArray, List.set_cons_zero, List.set_cons_succ]
  refine wpAnyH_take (i := 14) (oi := ⟨some 4, _, _, _, _, _⟩) (v := ?v112) rfl (by kernel_rfl) (by kernel_rfl) (by kernel_rfl) (fun _ _ _ h => h) (Or.inl ⟨rfl, ?c112⟩) hH ?r112
  case c112 => (intro w' _; go_simp; (try with_reducible rfl))
  try simp only [Act.put, List.setIfInBounds_toArray, List.set_cons_zero, List.set_cons_succ]
  refine wpAnyH_done (by kernel_rfl) ?_ _
  go_wp2_with fail
  go_ret
  exact ⟨rfl, HR3.out, (Only.of_below HQ2.out.bel : Only O w _).trans HO3.out (fun j e => .inl e)⟩
end Au
end Go.Proofs.YtgcnhbjoalemlaaGreatDoor
/- Layer 18: the contracts of until and follow. (Written by wip/tools/mkAutD.py.) -/
set_option linter.unusedVariables false
set_option linter.unusedSimpArgs false
set_option maxRecDepth 100000
namespace Go.Proofs.YtgcnhbjoalemlaaGreatDoor
open Go.ChangeShapes Go.WideShapes Go.ChangeAt Go.RowKit Go.Mtl Go.Lib
namespace Au
open AutM
open RulM (R)
open MatM (K)

/-- The timeouts as a value. -/
abbrev sx (T : Nat → Int) : Array Value := #[.int .i64 (T 0), .int .i64 (T 1), .int .i64 (T 2), .int .i64 (T 3), .int .i64 (T 4), .int .i64 (T 5), .int .i64 (T 6), .int .i64 (T 7), .int .i64 (T 8), .int .i64 (T 9), .int .i64 (T 10), .int .i64 (T 11), .int .i64 (T 12), .int .i64 (T 13), .int .i64 (T 14), .int .i64 (T 15)]
theorem six {T : Nat → Int} (h : ∀ i, -9223372036854775808 ≤ T i ∧ T i ≤ 9223372036854775807) : Fs.Six (sx T) T where
  size := rfl
  cell := fun i hi => by
    obtain rfl | rfl | rfl | rfl | rfl | rfl | rfl | rfl | rfl | rfl | rfl | rfl | rfl | rfl | rfl | rfl : i = 0 ∨ i = 1 ∨ i = 2 ∨ i = 3 ∨ i = 4 ∨ i = 5 ∨ i = 6 ∨ i = 7 ∨ i = 8 ∨ i = 9 ∨ i = 10 ∨ i = 11 ∨ i = 12 ∨ i = 13 ∨ i = 14 ∨ i = 15 := by omega
    all_goals rfl
  fit := fun i _ => h i
/-- The firewall and what was there before. -/
structure RQ (w0 : World) (O : Nat → Prop) (B M : Nat) (N : Int) (T : Nat → Int) (x : Int) (li : Value) (rl : List R) (fs : List Fl) (t : Nat → Int) (w : World) : Prop where
  raw : Raw w O B M N T x li rl fs t
  bel : Below w0.heap.size w0 w
theorem RQ.next {w0 w w' : World} {O : Nat → Prop} {B M : Nat} {N : Int} {T : Nat → Int} {x : Int} {li : Value} {rl : List R} {fs : List Fl} {t : Nat → Int} (H : RQ w0 O B M N T x li rl fs t w) (hb : Below w.heap.size w w') : RQ w0 O B M N T x li rl fs t w' := ⟨H.raw.next hb, H.bel.trans (hb.mono H.bel.size)⟩

set_option maxHeartbeats 4000000 in
theorem until_any {w : World} {O : Nat → Prop} {B M : Nat} {N : Int} {T : Nat → Int} {c g v : Int} {li : Value} {rl : List R} {fs : List Fl} {t : Nat → Int} (H : Raw w O B M N T (GatM.gI c g v) li rl fs t) (he : Env w) (hf : GatM.Fit c g v) (htm : ∀ i, -9223372036854775808 ≤ T i ∧ T i ≤ 9223372036854775807) (s : Int) :
    Calls Tryz.prog 71 #[ptr B, .int .i64 s] w fun e w' => e = .returned (.int .i64 (Fs.untN T s c)) ∧ Below w.heap.size w w' := by
  obtain ⟨x, hx⟩ : ∃ x, x = GatM.gI c g v := ⟨_, rfl⟩
  have HG0 : Hid (∀ W, Raw W O B M N T x li rl fs t → Env W → Calls Tryz.prog 20 #[ptr B] W fun e w' => e = .returned (.agg (Ga.gtc v g c)) ∧ Below W.heap.size W w') := fun W h e => gate_any (hx ▸ h) hf e
  have HU : Hid (∀ W, Calls Tryz.prog 104 #[.agg (sx T), .int .i64 s, .int .i64 c] W fun e w' => e = .returned (.int .i64 (Fs.untN T s c)) ∧ Below W.heap.size W w') := fun W => Fs.until_any (sx T) T (six htm) s c W
  rw [← hx] at H
  have HE := Lib.hid he
  have HQ : Hid (RQ w O B M N T x li rl fs t w) := ⟨H, Below.refl _ _⟩
  generalize Fs.untN T s c = u at HU
  clear H he hf htm hx
  go_enter Tryz.func71, Tryz.ntmps71
  go_wp2_with fail
  refine wp_region_held_drew (S := fun w' => RQ w O B M N T x li rl fs t w') (by kernel_rfl) (HQ.out.next (Below.refl _ w).drew) (fun hH => ?_)
  refine wpAnyH_take (i := 0) (oi := ⟨some 5, _, _, _, _, _⟩) (v := ?v1) rfl (by kernel_rfl) (by kernel_rfl) (by kernel_rfl) (fun _ _ _ h => h) (Or.inl ⟨rfl, ?c1⟩) hH ?r1
  case c1 => (intro w' _; go_simp; (try with_reducible rfl))
  try simp only [Act.put, List.setIfInBounds_toArray, List.set_cons_zero, List.set_cons_succ]
  refine wpAnyH_take (i := 1) (oi := ⟨some 6, _, _, _, _, _⟩) (v := ?v2) rfl (by kernel_rfl) (by kernel_rfl) (by kernel_rfl) (fun _ _ _ h => h) (Or.inl ⟨rfl, ?c2⟩) hH ?r2
  case c2 => (intro w' _; go_simp; (try with_reducible rfl))
  try simp only [Act.put, List.setIfInBounds_toArray, List.set_cons_zero, List.set_cons_succ]
  refine wpAnyH_take (i := 2) (oi := ⟨some 7, _, _, _, _, _⟩) (v := ?v3) rfl (by kernel_rfl) (by kernel_rfl) (by kernel_rfl) (fun _ _ _ h => h) (Or.inl ⟨rfl, ?c3⟩) hH ?r3
  case c3 => (intro w' _; go_simp; (try with_reducible rfl))
  try simp only [Act.put, List.setIfInBounds_toArray, List.set_cons_zero, List.set_cons_succ]
  refine wpAnyH_take (i := 3) (oi := ⟨some 8, _, _, _, _, _⟩) (v := ?v4) rfl (by kernel_rfl) (by kernel_rfl) (by kernel_rfl) (fun _ _ _ h => h) (Or.inl ⟨rfl, ?c4⟩) hH ?r4
  case c4 => (intro w' hS; have t0 := hS.raw.at_ 1 _ rfl; have t1 := hS.raw.at_ 2 _ rfl; have t2 := hS.raw.at_ 3 _ rfl; have t3 := hS.raw.at_ 4 _ rfl; have t4 := hS.raw.at_ 5 _ rfl; have t5 := hS.raw.at_ 6 _ rfl; have t6 := hS.raw.at_ 7 _ rfl; have t7 := hS.raw.at_ 8 _ rfl; have t8 := hS.raw.at_ 9 _ rfl; have t9 := hS.raw.at_ 10 _ rfl; have t10 := hS.raw.at_ 11 _ rfl; have t11 := hS.raw.at_ 12 _ rfl; have t12 := hS.raw.at_ 13 _ rfl; have t13 := hS.raw.at_ 14 _ rfl; have t14 := hS.raw.at_ 15 _ rfl; have t15 := hS.raw.at_ 16 _ rfl; go_simp; (try with_reducible rfl))
  try simp only [Act.put, List.setIfInBounds_toArray, List.set_cons_zero, List.set_cons_succ]
  refine wpAnyH_take (i := 4) (oi := ⟨some 9, _, _, _, _, _⟩) (v := ?v5) rfl (by kernel_rfl) (by kernel_rfl) (by kernel_rfl) (fun _ _ _ h => h) (Or.inl ⟨rfl, ?c5⟩) hH ?r5
  case c5 => (intro w' _; go_simp; (try with_reducible rfl))
  try simp only [Act.put, List.setIfInBounds_toArray, List.set_cons_zero, List.set_cons_succ]
  refine wpAnyH_take (i := 5) (oi := ⟨some 10, _, _, _, _, _⟩) (v := ?v6) rfl (by kernel_rfl) (by kernel_rfl) (by kernel_rfl) (fun _ _ _ h => h) (Or.inl ⟨rfl, ?c6⟩) hH ?r6
  case c6 => (intro w' _; go_simp; (try with_reducible rfl))
  try simp only [Act.put, List.setIfInBounds_toArray, List.set_cons_zero, List.set_cons_succ]
  refine wpAnyH_ready (rs := [6]) (by kernel_rfl) (by simp) (AllReadyH.cons rfl (fun K hK => ?_) (AllReadyH.nil))
  go_simp
  go_at_call 20
  refine (HG0.out _ hH.raw (HE.out.below hH.bel)).mono ?_
  rintro e w1 ⟨rfl, hbp⟩
  refine hK.out _ _ (hH.next hbp) (fun hH => ?_)
  clear hK K
  clear hbp
  try simp only [Act.put, List.setIfInBounds_toArray, List.set_cons_zero, List.set_cons_succ]
  refine wpAnyH_take (i := 7) (oi := ⟨some 12, _, _, _, _, _⟩) (v := ?v7) rfl (by kernel_rfl) (by kernel_rfl) (by kernel_rfl) (fun _ _ _ h => h) (Or.inl ⟨rfl, ?c7⟩) hH ?r7
  case c7 => (intro w' hS; go_simp; rw [Ga.field2]; simp only [Result.andThen_ok]; (try with_reducible rfl))
  try simp only [Act.put, List.setIfInBounds_toArray, List.set_cons_zero, List.set_cons_succ]
  refine wpAnyH_ready (rs := [8]) (by kernel_rfl) (by simp) (AllReadyH.cons rfl (fun K hK => ?_) (AllReadyH.nil))
  go_simp
  go_at_call 104
  refine (HU.out _).mono ?_
  rintro e w2 ⟨rfl, hbp⟩
  refine hK.out _ _ (hH.next hbp) (fun hH => ?_)
  clear hK K
  clear hbp
  try simp only [Act.put, List.setIfInBounds_toArray, List.set_cons_zero, List.set_cons_succ]
  refine wpAnyH_take (i := 9) (oi := ⟨some 4, _, _, _, _, _⟩) (v := ?v8) rfl (by kernel_rfl) (by kernel_rfl) (by kernel_rfl) (fun _ _ _ h => h) (Or.inl ⟨rfl, ?c8⟩) hH ?r8
  case c8 => (intro w' _; go_simp; (try with_reducible rfl))
  try simp only [Act.put, List.setIfInBounds_toArray, List.set_cons_zero, List.set_cons_succ]
  refine wpAnyH_done (by kernel_rfl) ?_ _
  go_wp2_with fail
  go_ret
  exact ⟨rfl, hH.bel⟩
end Au
end Go.Proofs.YtgcnhbjoalemlaaGreatDoor
