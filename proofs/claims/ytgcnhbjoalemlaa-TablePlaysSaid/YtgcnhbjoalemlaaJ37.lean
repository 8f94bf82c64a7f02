/- Several texts of this proof in one file, each in its own namespace. -/
import Derived.Test.YtgcnhbjoalemlaaJ36
import Derived.Test.YtgcnhbjoalemlaaComQ
import Derived.Test.YtgcnhbjoalemlaaJ10
import Derived.Test.YtgcnhbjoalemlaaJ28
import Derived.Test.YtgcnhbjoalemlaaJ9
/- Layer 20: a slice of acts that came in, and an act by value. -/
set_option linter.unusedVariables false
set_option linter.unusedSimpArgs false
set_option maxRecDepth 100000
namespace Go.Proofs.Ytgcnhbjoalemlaa
open Go.ChangeShapes Go.WideShapes Go.ChangeAt Go.RowKit Go.Mtl Go.Lib Go.Deep
namespace Tb
open TabM
/-- An act: its kind, its thread, a number, a key and a bool. -/
structure Dt where
  kd : Nat
  th : Int
  at_ : Int
  k : AutM.Ke
  tn : Bool
structure Dt.Ok (x : Dt) : Prop where
  kd : x.kd < 256
  th : -9223372036854775808 ≤ x.th ∧ x.th ≤ 9223372036854775807
  at_ : -9223372036854775808 ≤ x.at_ ∧ x.at_ ≤ 9223372036854775807
  k : x.k.Ok
def dtC (x : Dt) : Array Value := #[.int .u8 x.kd, .int .i64 x.th, .int .i64 x.at_, .int .u32 x.k.a, .int .u32 x.k.b, .int .u16 x.k.p, .int .u16 x.k.q, .int .u8 x.k.r, .bool x.tn]
/-- The slice v reads as these acts; where it is not empty it lies below block B. -/
def Dts (w : World) (B : Nat) (v : Value) (xs : List Dt) : Prop :=
  ∃ A c, v = .slice A xs.length c ∧ xs.length ≤ c ∧ c ≤ 9223372036854775807 ∧ (0 < xs.length → ∃ b off, A = some ⟨b, off, none⟩ ∧ b < B ∧ ∀ (i : Nat) (x : Dt), xs[i]? = some x → ∀ (j : Nat) (u : Value), (dtC x)[j]? = some u → w.cell? ⟨b, off + (i * 9 + j), none⟩ = some u)
theorem Dts.keep {w w' : World} {B : Nat} {v : Value} {xs : List Dt} (h : Dts w B v xs) (hk : ∀ p : Addr, p.block < B → w'.cell? p = w.cell? p) : Dts w' B v xs := by
  obtain ⟨A, c, e, h1, h2, h3⟩ := h
  refine ⟨A, c, e, h1, h2, fun hn => ?_⟩
  obtain ⟨b, off, e2, hb, hc⟩ := h3 hn
  exact ⟨b, off, e2, hb, fun i x hx j u hu => (hk ⟨b, _, none⟩ hb).trans (hc i x hx j u hu)⟩
theorem Dts.below {w w' : World} {B : Nat} {v : Value} {xs : List Dt} (h : Dts w B v xs) (hb : Below B w w') : Dts w' B v xs := h.keep fun _ hp => hb.cell hp
/-- One of the acts: where its cells are. -/
theorem Dts.at_ {w : World} {B : Nat} {v : Value} {xs : List Dt} (h : Dts w B v xs) {len : Nat} (hl : xs.length = len) {i : Nat} {x : Dt} (hx : xs[i]? = some x) :
    ∃ b off c, v = .slice (some ⟨b, off, none⟩) len c ∧ len ≤ c ∧ c ≤ 9223372036854775807 ∧ b < B ∧ w.rangeAt b (off + i * 9) (dtC x).toList := by
  subst hl
  obtain ⟨A, c, rfl, h1, h2, h3⟩ := h
  obtain ⟨b, off, rfl, hb, hc⟩ := h3 (by have := (List.getElem?_eq_some_iff.1 hx).1; omega)
  refine ⟨b, off, c, rfl, h1, h2, hb, fun j u hu => ?_⟩
  rw [Nat.add_assoc]
  exact hc i x hx j u (by simpa using hu)
section
variable {H : Type} {enc : TypeId × Value → H} {P : Program} {w : World} {base : Nat} {spare : Nat → Bool} {held : Bool}
/-- The types of an act, of one program. -/
structure DtTypes (P : Program) (t : TypeId) : Prop where
  ty : ∃ (fs fk : Array Field) (t8 ti tk ta tb t32 t16 tn : TypeId), P.underlying t = some (.struct fs) ∧ fs.toList.map (fun f => (f.type, f.offset)) = [(t8, 0), (ti, 1), (ti, 2), (tk, 3), (tn, 8)] ∧
    P.underlying t8 = some (.int .u8) ∧ P.underlying ti = some (.int .i64) ∧ P.underlying tn = some .bool ∧
    P.underlying tk = some (.struct fk) ∧ fk.toList.map (fun f => (f.type, f.offset)) = [(ta, 0), (tb, 2), (t8, 4)] ∧ P.underlying ta = some (.array 2 t32) ∧ P.underlying tb = some (.array 2 t16) ∧ P.underlying t32 = some (.int .u32) ∧ P.underlying t16 = some (.int .u16) ∧
    P.cellsOf t = 9 ∧ P.cellsOf t8 = 1 ∧ P.cellsOf ti = 1 ∧ P.cellsOf tn = 1 ∧ P.cellsOf tk = 5 ∧ P.cellsOf ta = 2 ∧ P.cellsOf tb = 2 ∧ P.cellsOf t32 = 1 ∧ P.cellsOf t16 = 1
/-- The nine cells of an act that was read. -/
theorem open_nine {t : TypeId} (D : DtTypes P t) {n : Nat} {cs : List Value} (hl : cs.length = 9) {x : DataW H × List MemPlace} (h : DataW.trod enc P w base spare held n t cs = some x) : ∃ y : Dt, cs = (dtC y).toList ∧ y.Ok := by
  obtain ⟨fs, fk, t8, ti, tk, ta, tb, t32, t16, tn, hs, hf, h8, hi, hn, hk, hkf, hta, htb, h32, h16, ct, c8, ci, cn, ck, ca, cb, c32, c16⟩ := D.ty
  obtain ⟨ys, m, _, _, _, hyl, hg⟩ := DataW.trod_struct hs h
  obtain ⟨fl⟩ := fs
  obtain ⟨f0, f1, f2, f3, f4, rfl⟩ : ∃ f0 f1 f2 f3 f4, fl = [f0, f1, f2, f3, f4] := by
    rcases fl with _ | ⟨f0, _ | ⟨f1, _ | ⟨f2, _ | ⟨f3, _ | ⟨f4, _ | ⟨f5, fl⟩⟩⟩⟩⟩⟩
    · simp at hf
    · simp at hf
    · simp at hf
    · simp at hf
    · simp at hf
    · exact ⟨_, _, _, _, _, rfl⟩
    · simp at hf
  simp only [List.map_cons, List.map_nil, List.cons.injEq, Prod.mk.injEq, and_true] at hf
  obtain ⟨⟨e0, o0⟩, ⟨e1, o1⟩, ⟨e2, o2⟩, ⟨e3, o3⟩, e4, o4⟩ := hf
  have hy : ys.length = 5 := hyl
  have g0 := hg 0 f0 rfl
  have g1 := hg 1 f1 rfl
  have g2 := hg 2 f2 rfl
  have g3 := hg 3 f3 rfl
  have g4 := hg 4 f4 rfl
  rw [e0, o0, c8, List.getElem?_eq_getElem (by omega)] at g0
  rw [e1, o1, ci, List.getElem?_eq_getElem (by omega)] at g1
  rw [e2, o2, ci, List.getElem?_eq_getElem (by omega)] at g2
  rw [e3, o3, ck, List.getElem?_eq_getElem (by omega)] at g3
  rw [e4, o4, cn, List.getElem?_eq_getElem (by omega)] at g4
  match cs, hl with
  | [v0, v1, v2, k0, k1, k2, k3, k4, vb], _ =>
    simp only [List.drop_zero, List.take_succ_cons, List.take_zero, List.drop_succ_cons] at g0 g1 g2 g3 g4
    obtain ⟨kd, ekd, _, wkd⟩ := DataW.trod_int h8 g0
    obtain ⟨xt, ext, _, wxt⟩ := DataW.trod_int hi g1
    obtain ⟨xa, exa, _, wxa⟩ := DataW.trod_int hi g2
    obtain ⟨b, eb, _⟩ := DataW.trod_bool hn g4
    obtain rfl : v0 = .int .u8 kd := by simpa using ekd
    obtain rfl : v1 = .int .i64 xt := by simpa using ext
    obtain rfl : v2 = .int .i64 xa := by simpa using exa
    obtain rfl : vb = .bool b := by simpa using eb
    obtain ⟨ks, m2, _, _, _, hkl, hkg⟩ := DataW.trod_struct hk g3
    obtain ⟨fl2⟩ := fk
    obtain ⟨j0, j1, j2, rfl⟩ : ∃ j0 j1 j2, fl2 = [j0, j1, j2] := by
      rcases fl2 with _ | ⟨f0, _ | ⟨f1, _ | ⟨f2, _ | ⟨f3, fl⟩⟩⟩⟩
      · simp at hkf
      · simp at hkf
      · simp at hkf
      · exact ⟨_, _, _, rfl⟩
      · simp at hkf
    simp only [List.map_cons, List.map_nil, List.cons.injEq, Prod.mk.injEq, and_true] at hkf
    obtain ⟨⟨a0, oo0⟩, ⟨a1, oo1⟩, a2, oo2⟩ := hkf
    have m0 := hkg 0 j0 rfl
    have m1 := hkg 1 j1 rfl
    have m2 := hkg 2 j2 rfl
    have hkl3 : ks.length = 3 := hkl
    rw [a0, oo0, ca, List.getElem?_eq_getElem (by omega)] at m0
    rw [a1, oo1, cb, List.getElem?_eq_getElem (by omega)] at m1
    rw [a2, oo2, c8, List.getElem?_eq_getElem (by omega)] at m2
    simp only [List.drop_zero, List.take_succ_cons, List.take_zero, List.drop_succ_cons] at m0 m1 m2
    obtain ⟨x1, x2, rfl, rfl, w1, w2⟩ := open_two hta h32 c32 m0
    obtain ⟨x3, x4, rfl, rfl, w3, w4⟩ := open_two htb h16 c16 m1
    obtain ⟨x5, ex5, _, w5⟩ := DataW.trod_int h8 m2
    obtain rfl : k4 = .int .u8 x5 := by simpa using ex5
    have u1 := bounds_u32 w1
    have u2 := bounds_u32 w2
    have u3 := bounds_u16 w3
    have u4 := bounds_u16 w4
    have u5 := bounds_u8 w5
    have u0 := bounds_u8 wkd
    refine ⟨⟨kd.toNat, xt, xa, ⟨x1.toNat, x2.toNat, x3.toNat, x4.toNat, x5.toNat⟩, b⟩, ?_, ⟨by simp only; omega, bounds_i64 wxt, bounds_i64 wxa, ⟨by simp only; omega, by simp only; omega, by simp only; omega, by simp only; omega, by simp only; omega⟩⟩⟩
    simp only [dtC, List.cons.injEq, Value.int.injEq, true_and, and_true]
    refine ⟨by omega, by omega, by omega, by omega, by omega, by omega⟩
theorem open_dts {t e : TypeId} (D : DtTypes P e) (ht : P.underlying t = some (.slice e)) {A : Option Addr} {len cap : Nat} {d : DataW H} {p : List MemPlace}
    (h : DataW.Trod enc P w 0 (fun _ => true) true t (.slice A len cap) d p) : ∃ xs : List Dt, xs.length = len ∧ Dts w w.heap.size (.slice A len cap) xs ∧ ∀ x ∈ xs, x.Ok := by
  have hC : P.cellsOf e = 9 := by obtain ⟨fs, fk, t8, ti, tk, ta, tb, t32, t16, tn, hs, _, _, _, _, _, _, _, _, _, _, ct, _⟩ := D.ty; exact ct
  obtain ⟨fuel, hf⟩ := h
  rcases open_slice ht hf with ⟨hcs, _⟩ | ⟨a, l, c, m, n', D', Pl, hcs, hb, hl, hm, hmm, _, hi⟩
  · simp [Value.cells] at hcs
    obtain ⟨rfl, rfl, rfl⟩ := hcs
    exact ⟨[], rfl, ⟨none, 0, rfl, Nat.le_refl _, by omega, fun h => absurd h (by simp)⟩, fun x hx => by cases hx⟩
  · simp [Value.cells] at hcs
    obtain ⟨rfl, rfl, rfl⟩ := hcs
    simp at hmm
    subst hmm
    rw [hC] at hi
    have each : ∀ i, i < len → ∃ y : Dt, y.Ok ∧ ∀ (j : Nat) (u : Value), (dtC y)[j]? = some u → w.cell? (a.add (i * 9 + j)) = some u := by
      intro i hlt
      obtain ⟨cs', hc, htr⟩ := hi i (by omega)
      obtain ⟨_, hcl, hat⟩ := World.cells?_some hc
      obtain ⟨y, hy, hok⟩ := open_nine D hcl htr
      refine ⟨y, hok, fun j u hu => ?_⟩
      have hj : j < 9 := (Array.getElem?_eq_some_iff.1 hu).1
      rw [← Go.Deep.add_add, hat j hj, hy, ← hu]
      simp
    have all : ∀ n, n ≤ len → ∃ xs : List Dt, xs.length = n ∧ (∀ x ∈ xs, x.Ok) ∧ ∀ (i : Nat) (x : Dt), xs[i]? = some x → ∀ (j : Nat) (u : Value), (dtC x)[j]? = some u → w.cell? (a.add (i * 9 + j)) = some u := by
      intro n
      induction n with
      | zero => intro _; exact ⟨[], rfl, (fun x hx => by cases hx), (fun i x hx => by simp at hx)⟩
      | succ n ih =>
        intro hn
        obtain ⟨xs, h1, h2, h3⟩ := ih (by omega)
        obtain ⟨y, ho, hc⟩ := each n (by omega)
        refine ⟨xs ++ [y], by simp [h1], fun q hq => ?_, fun i q hq => ?_⟩
        · rcases List.mem_append.1 hq with hq | hq
          · exact h2 q hq
          · rw [List.mem_singleton.1 hq]; exact ho
        · by_cases hj : i < xs.length
          · rw [List.getElem?_append_left hj] at hq
            exact h3 i q hq
          · have hq2 : i < (xs ++ [y]).length := (List.getElem?_eq_some_iff.1 hq).1
            have hin : i = n := by simp at hq2; omega
            subst hin
            rw [List.getElem?_append_right (by omega), h1, Nat.sub_self] at hq
            simp at hq
            subst hq
            exact hc
    obtain ⟨xs, h1, h2, h3⟩ := all len (Nat.le_refl _)
    refine ⟨xs, h1, ⟨some a, m, by rw [h1], by omega, by unfold maxLen at hm; omega, fun hn => ?_⟩, fun x hx => h2 x hx⟩
    obtain ⟨b, off, sp⟩ := a
    obtain ⟨x, hx⟩ : ∃ x, xs[0]? = some x := ⟨_, List.getElem?_eq_getElem hn⟩
    have hc0 := h3 0 x hx 0 _ rfl
    obtain rfl : sp = none := by simpa [Addr.add] using World.cell?_spot hc0
    have hb0 := World.block_lt_of_cell? _ _ hc0
    refine ⟨b, off, rfl, by simpa [Addr.add] using hb0, fun i x hx j u hu => ?_⟩
    have e : ∀ j, Addr.add ⟨b, off, none⟩ j = ⟨b, off + j, none⟩ := fun j => by unfold Addr.add; split <;> simp_all
    rw [← e]
    exact h3 i x hx j u hu
end
theorem dtTypes : DtTypes Try.prog 39 :=
  ⟨_, _, 5, 3, 37, 33, 35, 32, 34, 4, Try.underlying39, by kernel_rfl,
    Try.underlying5, Try.underlying3, Try.underlying4, Try.underlying37, by kernel_rfl, Try.underlying33, Try.underlying35, Try.underlying32, Try.underlying34,
    by kernel_rfl, by kernel_rfl, by kernel_rfl, by kernel_rfl, by kernel_rfl, by kernel_rfl, by kernel_rfl, by kernel_rfl, by kernel_rfl⟩
end Tb
end Go.Proofs.Ytgcnhbjoalemlaa
/- Layer 20: the walk of TableHeld. -/
set_option linter.unusedVariables false
set_option linter.unusedSimpArgs false
set_option maxRecDepth 100000
namespace Go.Proofs.Ytgcnhbjoalemlaa
open Go.ChangeShapes Go.WideShapes Go.ChangeAt Go.RowKit Go.Mtl Go.Lib
namespace Tb
open TabM
open KeyM (isPow hashN strN)
open MemM (Ms holdV touchS newS lockS lockB unlockS unlockV say has at_)
open Me (ptr)
theorem rep_at : ∀ s : Nat, s < 16 → (List.replicate 16 (-1 : Int)).getD s 0 = -1 := by decide
theorem set_at : ∀ s : Nat, s < 16 → ((List.replicate 16 (-1 : Int)).set s 1).getD s 0 = 1 := by decide
/-- Every mutex of the sixteen is free; at most a accesses. -/
def Free (ms : Ms) (a : Nat) : Prop := ms.hs = List.replicate 16 (-1) ∧ ms.ls.length ≤ a
theorem Free.held {ms : Ms} {a : Nat} (h : Free ms a) (t i : Int) : heldB ms t i = false := by
  have hv : holdV ms i = -1 := by
    unfold holdV
    split
    · rename_i hh
      obtain ⟨j, rfl, hj⟩ := MemM.has_yes hh
      rw [h.1] at hj
      simp only [List.length_replicate] at hj
      rw [MemM.at_nat, h.1, rep_at j hj]
    · rfl
  unfold heldB
  rw [hv]
  by_cases h0 : 0 ≤ t
  · have : (-1 == t) = false := by simp; omega
    rw [this, Bool.and_false]
  · rw [decide_eq_false h0, Bool.false_and]
/-- Held by 1 alone: mutex s. -/
def One (ms : Ms) (s a : Nat) : Prop := ms.hs = (List.replicate 16 (-1)).set s 1 ∧ ms.ls.length ≤ a
theorem Free.lock {ms : Ms} {a : Nat} (h : Free ms a) {s : Nat} (hs : s < 16) : One (lockS ms 1 (s : Int)) s (a + 1) := by
  have hb : lockB ms 1 (s : Int) = true := by
    unfold lockB has
    rw [MemM.at_nat, h.1, rep_at s hs]
    simp
    omega
  unfold lockS
  rw [if_pos hb]
  exact ⟨by show ms.hs.set _ _ = _; rw [h.1]; rfl, by show (ms.ls ++ _).length ≤ _; have := h.2; simp; omega⟩
theorem One.held {ms : Ms} {s a : Nat} (h : One ms s a) (hs : s < 16) : heldB ms 1 (s : Int) = true := by
  unfold heldB holdV has
  rw [h.1, MemM.at_nat, set_at s hs]
  simp
  omega
theorem One.touch {ms : Ms} {s a : Nat} (h : One ms s a) (k i : Int) : One (touchS ms 1 k i) s (a + 1) := by
  unfold touchS
  split
  · exact ⟨h.1, by show (ms.ls ++ _).length ≤ _; have := h.2; simp; omega⟩
  · exact ⟨h.1, Nat.le_succ_of_le h.2⟩
theorem One.unlock {ms : Ms} {s a : Nat} (h : One ms s a) (hs : s < 16) : Free (unlockS ms 1 (s : Int)) (a + 1) := by
  have hv : unlockV ms 1 (s : Int) = 0 := by
    unfold unlockV has
    rw [MemM.at_nat, h.1, set_at s hs]
    simp
    omega
  unfold unlockS
  rw [if_pos hv]
  refine ⟨?_, by show (ms.ls ++ _).length ≤ _; have := h.2; simp; omega⟩
  show ms.hs.set _ _ = _
  rw [h.1]
  simp only [Int.toNat_natCast, List.set_set]
  apply List.ext_getElem (by simp)
  intro i h1 h2
  rw [List.getElem_set]
  split
  · rw [List.getElem_replicate]
  · rw [List.getElem_replicate]
/-- An act's cells. -/
def Nine (w : World) (b o : Nat) (x : Dt) : Prop :=
  w.cell? ⟨b, o, none⟩ = some (.int .u8 x.kd) ∧ w.cell? ⟨b, o + 1, none⟩ = some (.int .i64 x.th) ∧ w.cell? ⟨b, o + 2, none⟩ = some (.int .i64 x.at_) ∧
  w.cell? ⟨b, o + 3, none⟩ = some (.int .u32 x.k.a) ∧ w.cell? ⟨b, o + 4, none⟩ = some (.int .u32 x.k.b) ∧ w.cell? ⟨b, o + 5, none⟩ = some (.int .u16 x.k.p) ∧ w.cell? ⟨b, o + 6, none⟩ = some (.int .u16 x.k.q) ∧ w.cell? ⟨b, o + 7, none⟩ = some (.int .u8 x.k.r) ∧ w.cell? ⟨b, o + 8, none⟩ = some (.bool x.tn)
theorem nine_of {w : World} {b o : Nat} {x : Dt} (h : w.rangeAt b o (dtC x).toList) : Nine w b o x :=
  ⟨h 0 _ rfl, h 1 _ rfl, h 2 _ rfl, h 3 _ rfl, h 4 _ rfl, h 5 _ rfl, h 6 _ rfl, h 7 _ rfl, h 8 _ rfl⟩
theorem Nine.below {w w' : World} {b o n : Nat} {x : Dt} (h : Nine w b o x) (hn : b < n) (hb : Below n w w') : Nine w' b o x := by
  obtain ⟨h0, h1, h2, h3, h4, h5, h6, h7, h8⟩ := h
  exact ⟨(hb.cell (p := ⟨b, _, none⟩) hn).trans h0, (hb.cell (p := ⟨b, _, none⟩) hn).trans h1, (hb.cell (p := ⟨b, _, none⟩) hn).trans h2, (hb.cell (p := ⟨b, _, none⟩) hn).trans h3, (hb.cell (p := ⟨b, _, none⟩) hn).trans h4, (hb.cell (p := ⟨b, _, none⟩) hn).trans h5, (hb.cell (p := ⟨b, _, none⟩) hn).trans h6, (hb.cell (p := ⟨b, _, none⟩) hn).trans h7, (hb.cell (p := ⟨b, _, none⟩) hn).trans h8⟩
theorem Kys.same {w w' : World} {b : Nat} {p : Option Addr} {ks : List AutM.Ke} (H : Kys w b p ks) (h : ∀ j, b ≤ j ∧ j < w.heap.size → w'.heap[j]? = w.heap[j]?) : Kys w' b p ks := fun h0 => by
  obtain ⟨g, e1, e2, e3, e4⟩ := H h0
  have hg := h g ⟨e2, e3⟩
  have hc : ∀ x, w'.cell? ⟨g, x, none⟩ = w.cell? ⟨g, x, none⟩ := fun x => World.cell?_of_block (w := w) (a := ⟨g, x, none⟩) hg
  exact ⟨g, e1, e2, some_lt (hg.trans (Array.getElem?_eq_getElem e3)), fun i k hk => ⟨(hc _).trans (e4 i k hk).c0, (hc _).trans (e4 i k hk).c1, (hc _).trans (e4 i k hk).c2, (hc _).trans (e4 i k hk).c3, (hc _).trans (e4 i k hk).c4⟩⟩
/-- A stripe's keys, where nothing is held. -/
theorem Free.keys {ms : Ms} {a : Nat} (h : Free ms a) (n : Nat) (t s : Int) (hs : -9223372036854775808 ≤ s ∧ s ≤ 9223372036854775807) : ∃ ve : Int, (ve == 0) = false ∧ ∀ (w : Fw) (Om Ot : Nat → Prop) (mb B : Nat) (fs : List Fl) (W : World), TM w Om Ot mb B ms n fs W →
    Calls Try.prog 19 #[ptr B, .int .i64 t, .int .i64 s] W fun e w' => e = .returned (.tuple #[.slice none 0 0, .int .i64 ve]) ∧ W = w' := by
  by_cases h0 : 0 ≤ s ∧ s < n
  · obtain ⟨i, rfl⟩ : ∃ i : Nat, s = (i : Int) := ⟨s.toNat, by omega⟩
    exact ⟨13, by decide, fun w Om Ot mb B fs W H => keys_no H t i (by omega) (h.held _ _)⟩
  · exact ⟨1, by decide, fun w Om Ot mb B fs W H => keys_arg H t s (by omega)⟩
end Tb
end Go.Proofs.Ytgcnhbjoalemlaa
/- Layer 20: the program's table and the reference's in one world. -/
set_option linter.unusedVariables false
set_option linter.unusedSimpArgs false
set_option maxRecDepth 100000
namespace Go.Proofs.Ytgcnhbjoalemlaa
open Go.ChangeShapes Go.WideShapes Go.ChangeAt Go.RowKit Go.Mtl Go.Lib
namespace Tb
open TabM
open KeyM (isPow hashN strN)
open MemM (Ms holdV touchS newS lockS lockB unlockS unlockV say has at_)
open Me (ptr)
theorem lt_of_kept {w w' : World} {O : Nat → Prop} (hl : ∀ j, O j → j < w.heap.size) (h : ∀ j, O j → w'.heap[j]? = w.heap[j]?) : ∀ j, O j → j < w'.heap.size := fun j hj => some_lt ((h j hj).trans (Array.getElem?_eq_getElem (hl j hj)))
theorem mm_keep {T : Mty} {w w' : World} {O : Nat → Prop} {B : Nat} {vw vh vl : Value} {ws hs : List Int} {ls : List MemM.Ac} (H : Mm T w O B vw vh vl ws hs ls) (h : ∀ k, O k → w'.heap[k]? = w.heap[k]?) : Mm T w' O B vw vh vl ws hs ls :=
  ⟨H.blk.keep (h _ H.ob), row_keep H.wr fun g e => h g (H.wo g e).1, row_keep H.hr fun g e => h g (H.ho g e).1, row_keep H.lr fun g e => h g (H.lo g e).1, H.wo, H.ho, H.lo, H.ob, lt_of_kept H.lt h⟩
theorem mat_keep {w w' : World} {O : Nat → Prop} {B : Nat} {s : Ms} (H : Me.MAt w O B s) (h : ∀ k, O k → w'.heap[k]? = w.heap[k]?) : Me.MAt w' O B s := by
  obtain ⟨⟨vw, vh, vl, h1⟩, h2⟩ := H
  exact ⟨⟨vw, vh, vl, mm_keep h1 h⟩, h2⟩
theorem rat_keep {w w' : World} {O : Nat → Prop} {B : Nat} {s : Ms} (H : Me.RAt w O B s) (h : ∀ k, O k → w'.heap[k]? = w.heap[k]?) : Me.RAt w' O B s := by
  obtain ⟨⟨vw, vh, vl, h1⟩, h2⟩ := H
  exact ⟨⟨vw, vh, vl, mm_keep h1 h⟩, h2⟩
theorem tat_keep {w w' : World} {O : Nat → Prop} {B mb n : Nat} {fs : List Fl} (H : TAt w O B mb n fs) (h : ∀ k, O k → w'.heap[k]? = w.heap[k]?) : TAt w' O B mb n fs := by
  obtain ⟨⟨S, M, h1⟩, h2⟩ := H
  exact ⟨⟨S, M, ⟨h1.blk.keep (h _ h1.ob), fun i hi => (World.cell?_of_block (w := w) (a := ⟨S, i, none⟩) (h S h1.os)).trans (h1.row i hi), fun i hi => (h1.map i hi).keep (h _ (h1.om i hi)), h1.inj, h1.ns, h1.nm, h1.ob, h1.os, h1.om, lt_of_kept h1.lt h⟩⟩, h2⟩
theorem uat_keep {w w' : World} {O : Nat → Prop} {B mb n : Nat} {fs : List Fl} (H : R.UAt w O B mb n fs) (h : ∀ k, O k → w'.heap[k]? = w.heap[k]?) : R.UAt w' O B mb n fs := by
  obtain ⟨⟨vf, h1⟩, h2⟩ := H
  exact ⟨⟨vf, ⟨h1.blk.keep (h _ h1.ob), row_keep h1.fr fun g e => h g (h1.fo g e).1, h1.fo, h1.ob, lt_of_kept h1.lt h⟩⟩, h2⟩
section
variable {w : Fw} {W w' : World} {Om Ot Oq Ou : Nat → Prop} {mb B rb C n : Nat} {ms ms' ms2 : Ms} {fs fs' fs2 : List Fl}
theorem TM.keep (H : TM w Om Ot mb B ms n fs W) (hb : Below w.heap.size w.toWorld w') (hf : ∀ j o, w.F j o → w'.heap[j]? = some o) (h : ∀ j, Om j ∨ Ot j → w'.heap[j]? = W.heap[j]?) : TM w Om Ot mb B ms n fs w' :=
  ⟨mat_keep H.mem fun j hj => h j (.inl hj), tat_keep H.tab fun j hj => h j (.inr hj), hb, H.nm, H.nt, H.dis, hf, H.nf⟩
theorem rm_keep (H : R.RM w Oq Ou rb C ms n fs W) (hb : Below w.heap.size w.toWorld w') (hf : ∀ j o, w.F j o → w'.heap[j]? = some o) (h : ∀ j, Oq j ∨ Ou j → w'.heap[j]? = W.heap[j]?) : R.RM w Oq Ou rb C ms n fs w' :=
  ⟨rat_keep H.mem fun j hj => h j (.inl hj), uat_keep H.tab fun j hj => h j (.inr hj), hb, H.nm, H.nt, H.dis, hf, H.nf⟩
theorem rm_make {w : World} {W w' : World} (hm : Me.RAt W Oq rb ms) (hb : Below w.heap.size w W) (hn : ∀ j, Oq j → w.heap.size ≤ j) (ht : R.UAt w' Ou C rb n fs) (hb2 : Below W.heap.size W w') (hn2 : ∀ j, Ou j → W.heap.size ≤ j) : R.RM (fw w) Oq Ou rb C ms n fs w' :=
  ⟨hm.next hb2, ht, hb.trans (hb2.mono hb.size), hn, fun j hj => Nat.le_trans hb.size (hn2 j hj), fun j h1 h2 => by have := hm.lt j h1; have := hn2 j h2; omega, fun _ _ e => e.elim, fun _ _ e => e.elim⟩
theorem rm_does (H : R.RM w Oq Ou rb C ms n fs W) {v : Value} {e : Ending} (D : Me.RDoes W Oq rb v ms' e w') : ∃ O', e = .returned v ∧ R.RM w O' Ou rb C ms' n fs w' := by
  obtain ⟨O', h1, h2, h3, h4⟩ := D
  exact ⟨O', h1, H.left h2 h3 h4⟩
/-- The program's memory and table, and the reference's, in one world: two states. -/
def P2 (w : Fw) (mb B rb C n : Nat) (ms : Ms) (fs : List Fl) (ms2 : Ms) (fs2 : List Fl) (W : World) : Prop := ∃ Om Ot Oq Ou, TM w Om Ot mb B ms n fs W ∧ R.RM w Oq Ou rb C ms2 n fs2 W ∧ ∀ j, Om j ∨ Ot j → ¬ (Oq j ∨ Ou j)
theorem P2.t_of (H : P2 w mb B rb C n ms fs ms2 fs2 W) : ∃ Om Ot O, TM (w.with O W) Om Ot mb B ms n fs W ∧ ∀ Om' Ot' ms' fs' w', TM (w.with O W) Om' Ot' mb B ms' n fs' w' → P2 w mb B rb C n ms' fs' ms2 fs2 w' := by
  obtain ⟨Om, Ot, Oq, Ou, ht, hu, hd⟩ := H
  refine ⟨Om, Ot, fun j => Oq j ∨ Ou j, ht.with fun j hj => ⟨fun h => hd j (.inl h) hj, fun h => hd j (.inr h) hj⟩, fun Om' Ot' ms' fs' w' h => ?_⟩
  obtain ⟨h1, h2, h3⟩ := h.without fun j hj => hj.elim (hu.mem.lt j) (hu.tab.lt_ j)
  exact ⟨Om', Ot', Oq, Ou, h1, rm_keep hu h1.bel h1.fr h2, fun j hj hq => hj.elim (h3 j hq).1 (h3 j hq).2⟩
theorem P2.u_of (H : P2 w mb B rb C n ms fs ms2 fs2 W) : ∃ Oq Ou O, R.RM (w.with O W) Oq Ou rb C ms2 n fs2 W ∧ ∀ Oq' Ou' ms' fs' w', R.RM (w.with O W) Oq' Ou' rb C ms' n fs' w' → P2 w mb B rb C n ms fs ms' fs' w' := by
  obtain ⟨Om, Ot, Oq, Ou, ht, hu, hd⟩ := H
  refine ⟨Oq, Ou, fun j => Om j ∨ Ot j, hu.with fun j hj => ⟨fun h => hd j hj (.inl h), fun h => hd j hj (.inr h)⟩, fun Oq' Ou' ms' fs' w' h => ?_⟩
  obtain ⟨h1, h2, h3⟩ := h.without fun j hj => hj.elim (ht.mem.lt j) (ht.tab.lt_ j)
  exact ⟨Om, Ot, Oq', Ou', ht.keep h1.bel h1.fr h2, h1, fun j hj hq => hq.elim (h3 j hj).1 (h3 j hj).2⟩
theorem P2.next (H : P2 w mb B rb C n ms fs ms2 fs2 W) (hb : Below W.heap.size W w') : P2 w mb B rb C n ms fs ms2 fs2 w' := by
  obtain ⟨Om, Ot, Oq, Ou, ht, hu, hd⟩ := H
  exact ⟨Om, Ot, Oq, Ou, ht.next hb, hu.next hb, hd⟩
theorem P2.bel (H : P2 w mb B rb C n ms fs ms2 fs2 W) : Below w.heap.size w.toWorld W := by
  obtain ⟨Om, Ot, Oq, Ou, ht, hu, hd⟩ := H
  exact ht.bel
theorem P2.add (H : P2 w mb B rb C n ms fs ms2 fs2 W) (o : Obj) : P2 (w.add W.heap.size o) mb B rb C n ms fs ms2 fs2 (W.alloc o) := by
  obtain ⟨Om, Ot, Oq, Ou, ht, hu, hd⟩ := H
  exact ⟨Om, Ot, Oq, Ou, ht.add o, hu.add o, hd⟩
theorem P2.drop {g : Nat} {o : Obj} (H : P2 (w.add g o) mb B rb C n ms fs ms2 fs2 W) : P2 w mb B rb C n ms fs ms2 fs2 W := by
  obtain ⟨Om, Ot, Oq, Ou, ht, hu, hd⟩ := H
  exact ⟨Om, Ot, Oq, Ou, ht.drop, hu.drop, hd⟩
theorem P2.nine {g : Nat} {x : Dt} (H : P2 (w.add g (.cells (dtC x) 39)) mb B rb C n ms fs ms2 fs2 W) : Nine W g 0 x := by
  obtain ⟨Om, Ot, Oq, Ou, ht, hu, hd⟩ := H
  have h := ht.box
  exact ⟨h.cell 0 _ rfl, h.cell 1 _ rfl, h.cell 2 _ rfl, h.cell 3 _ rfl, h.cell 4 _ rfl, h.cell 5 _ rfl, h.cell 6 _ rfl, h.cell 7 _ rfl, h.cell 8 _ rfl⟩
theorem touch_len (s : Ms) (t k i : Int) : (touchS s t k i).ls.length ≤ s.ls.length + 1 := by
  unfold touchS
  split
  · show (s.ls ++ _).length ≤ _
    simp
  · exact Nat.le_succ _
end
theorem lock_len (s : Ms) (t i : Int) : (lockS s t i).ls.length ≤ s.ls.length + 1 := by
  unfold lockS
  split
  · show (s.ls ++ _).length ≤ _
    simp
  · exact Nat.le_succ _
theorem unlock_len (s : Ms) (t i : Int) : (unlockS s t i).ls.length ≤ s.ls.length + 1 := by
  unfold unlockS
  split
  · show (s.ls ++ _).length ≤ _
    simp
  · exact Nat.le_succ _
/-- Both do the same, one after the other. -/
structure Both (w : Fw) (mb B rb C n : Nat) (ms : Ms) (fs : List Fl) (v : Value) (ms' : Ms) (fs' : List Fl) (f g : FuncId) (xs : List Value) (q r : Nat) : Prop where
  ls : ms'.ls.length ≤ ms.ls.length + 1
  fl : fs'.length ≤ fs.length + 1
  t : ∀ W, P2 w mb B rb C n ms fs ms fs W → Calls Try.prog f (ptr q :: xs).toArray W fun e w' => e = .returned v ∧ P2 w mb B rb C n ms' fs' ms fs w'
  u : ∀ W, P2 w mb B rb C n ms' fs' ms fs W → Calls Try.prog g (ptr r :: xs).toArray W fun e w' => e = .returned v ∧ P2 w mb B rb C n ms' fs' ms' fs' w'
section
variable {w : Fw} {mb B rb C n : Nat} {ms : Ms} {fs : List Fl}
theorem lock2 (t i : Int) (ht : t ≤ 9223372036854775807) (hl : ms.ls.length ≤ 1000000000000) : Both w mb B rb C n ms fs (.bool (lockB ms t i)) (lockS ms t i) fs 11 12 [.int .i64 t, .int .i64 i] mb rb where
  ls := lock_len ms t i
  fl := Nat.le_succ _
  t := fun W H => by
    obtain ⟨Om, Ot, O, h1, h2⟩ := H.t_of
    refine (Me.lock_any h1.mem t i ht hl).mono ?_
    intro e w' hd
    obtain ⟨O', rfl, h⟩ := h1.does hd
    exact ⟨rfl, h2 _ _ _ _ _ h⟩
  u := fun W H => by
    obtain ⟨Om, Ot, O, h1, h2⟩ := H.u_of
    refine (Me.refLock_any h1.mem t i ht hl).mono ?_
    intro e w' hd
    obtain ⟨O', rfl, h⟩ := rm_does h1 hd
    exact ⟨rfl, h2 _ _ _ _ _ h⟩
theorem unlock2 (t i : Int) (ht : t ≤ 9223372036854775807) (hl : ms.ls.length ≤ 1000000000000) : Both w mb B rb C n ms fs (.int .i64 (unlockV ms t i)) (unlockS ms t i) fs 13 14 [.int .i64 t, .int .i64 i] mb rb where
  ls := unlock_len ms t i
  fl := Nat.le_succ _
  t := fun W H => by
    obtain ⟨Om, Ot, O, h1, h2⟩ := H.t_of
    refine (Me.unlock_any h1.mem t i hl).mono ?_
    intro e w' hd
    obtain ⟨O', rfl, h⟩ := h1.does hd
    exact ⟨rfl, h2 _ _ _ _ _ h⟩
  u := fun W H => by
    obtain ⟨Om, Ot, O, h1, h2⟩ := H.u_of
    refine (Me.refUnlock_any h1.mem t i ht hl).mono ?_
    intro e w' hd
    obtain ⟨O', rfl, h⟩ := rm_does h1 hd
    exact ⟨rfl, h2 _ _ _ _ _ h⟩
theorem put2 (hl : ms.ls.length ≤ 1000000000000) (hfl : fs.length ≤ 100000) (t : Int) (k : AutM.Ke) (hk : k.Ok) (x : Int) (d : Bool) (hx : -9223372036854775808 ≤ x ∧ x ≤ 9223372036854775807) :
    ∃ ve ms' fs', Both w mb B rb C n ms fs (.int .i64 ve) ms' fs' 15 16 [.int .i64 t, Au.kyV k, .int .i64 x, .bool d] B C := by
  cases hh : heldB ms t ((sOf n k : Nat) : Int) with
  | false =>
    refine ⟨13, ms, fs, Nat.le_succ _, Nat.le_succ _, fun W H => ?_, fun W H => ?_⟩
    · obtain ⟨Om, Ot, O, h1, h2⟩ := H.t_of
      refine (put_no h1 t k hk x d _ rfl hh).mono ?_
      rintro e w' ⟨O', rfl, h⟩
      exact ⟨rfl, h2 _ _ _ _ _ h⟩
    · obtain ⟨Om, Ot, O, h1, h2⟩ := H.u_of
      refine (R.put_no h1 t k hk x d _ rfl hh).mono ?_
      rintro e w' ⟨O', O2, rfl, h⟩
      exact ⟨rfl, h2 _ _ _ _ _ h⟩
  | true =>
    refine ⟨0, touchS ms t 6 ((sOf n k : Nat) : Int), upd ⟨k, x, d⟩ fs, touch_len _ _ _ _, len_upd _ _, fun W H => ?_, fun W H => ?_⟩
    · obtain ⟨Om, Ot, O, h1, h2⟩ := H.t_of
      refine (put_yes h1 hl t k hk x d _ rfl hh hx).mono ?_
      rintro e w' ⟨O', rfl, h⟩
      exact ⟨rfl, h2 _ _ _ _ _ h⟩
    · obtain ⟨Om, Ot, O, h1, h2⟩ := H.u_of
      have hf : ((find k fs).isSome = true ∧ (find k fs).isSome = true) ∨ (find k fs = none ∧ (find k fs).isSome = false) := by
        cases find k fs with
        | none => exact .inr ⟨rfl, rfl⟩
        | some f => exact .inl ⟨rfl, rfl⟩
      refine (R.put_yes h1 hl hfl t k hk x d _ _ rfl hh hx hf).mono ?_
      rintro e w' ⟨O', O2, rfl, h⟩
      exact ⟨rfl, h2 _ _ _ _ _ h⟩
theorem remove2 (hl : ms.ls.length ≤ 1000000000000) (hfl : fs.length ≤ 100000) (t : Int) (k : AutM.Ke) (hk : k.Ok) :
    ∃ ve ms' fs', Both w mb B rb C n ms fs (.int .i64 ve) ms' fs' 17 18 [.int .i64 t, Au.kyV k] B C := by
  cases hh : heldB ms t ((sOf n k : Nat) : Int) with
  | false =>
    refine ⟨13, ms, fs, Nat.le_succ _, Nat.le_succ _, fun W H => ?_, fun W H => ?_⟩
    · obtain ⟨Om, Ot, O, h1, h2⟩ := H.t_of
      refine (remove_no h1 t k hk _ rfl hh).mono ?_
      rintro e w' ⟨O', rfl, h⟩
      exact ⟨rfl, h2 _ _ _ _ _ h⟩
    · obtain ⟨Om, Ot, O, h1, h2⟩ := H.u_of
      refine (R.remove_no h1 t k hk _ rfl hh).mono ?_
      rintro e w' ⟨O', O2, rfl, h⟩
      exact ⟨rfl, h2 _ _ _ _ _ h⟩
  | true =>
    have hf : ∃ (x : Int) (d b : Bool) (ve : Int), ((∃ f, find k fs = some f ∧ x = f.x ∧ d = f.dn ∧ b = true ∧ ve = 0) ∨ (find k fs = none ∧ x = 0 ∧ d = false ∧ b = false ∧ ve = 15)) ∧ (((find k fs).isSome = true ∧ b = true ∧ ve = 0) ∨ (find k fs = none ∧ b = false ∧ ve = 15)) := by
      cases find k fs with
      | none => exact ⟨0, false, false, 15, .inr ⟨rfl, rfl, rfl, rfl, rfl⟩, .inr ⟨rfl, rfl, rfl⟩⟩
      | some f => exact ⟨f.x, f.dn, true, 0, .inl ⟨f, rfl, rfl, rfl, rfl, rfl⟩, .inl ⟨rfl, rfl, rfl⟩⟩
    obtain ⟨x, d, b, ve, g1, g2⟩ := hf
    refine ⟨ve, touchS ms t 6 ((sOf n k : Nat) : Int), drop k fs, touch_len _ _ _ _, Nat.le_succ_of_le (len_drop_le _ _), fun W H => ?_, fun W H => ?_⟩
    · obtain ⟨Om, Ot, O, h1, h2⟩ := H.t_of
      refine (remove_yes h1 hl t k hk x d b ve _ rfl hh g1).mono ?_
      rintro e w' ⟨O', rfl, h⟩
      exact ⟨rfl, h2 _ _ _ _ _ h⟩
    · obtain ⟨Om, Ot, O, h1, h2⟩ := H.u_of
      refine (R.remove_yes h1 hl hfl t k hk b ve _ rfl hh g2).mono ?_
      rintro e w' ⟨O', O2, rfl, h⟩
      exact ⟨rfl, h2 _ _ _ _ _ h⟩
theorem find2 (hl : ms.ls.length ≤ 1000000000000) (hfl : fs.length ≤ 100000) (t : Int) (k : AutM.Ke) (hk : k.Ok) :
    ∃ (x : Int) (d b : Bool) (ve : Int) (ms' : Ms), Both w mb B rb C n ms fs (.tuple #[.int .i64 x, .bool d, .bool b, .int .i64 ve]) ms' fs 22 23 [.int .i64 t, Au.kyV k] B C := by
  cases hh : heldB ms t ((sOf n k : Nat) : Int) with
  | false =>
    refine ⟨0, false, false, 13, ms, Nat.le_succ _, Nat.le_succ _, fun W H => ?_, fun W H => ?_⟩
    · obtain ⟨Om, Ot, O, h1, h2⟩ := H.t_of
      refine (find_no h1 t k hk _ rfl hh).mono ?_
      rintro e w' ⟨O', rfl, h⟩
      exact ⟨rfl, h2 _ _ _ _ _ h⟩
    · obtain ⟨Om, Ot, O, h1, h2⟩ := H.u_of
      refine (R.find_no h1 t k hk _ rfl hh).mono ?_
      rintro e w' ⟨O', O2, rfl, h⟩
      exact ⟨rfl, h2 _ _ _ _ _ h⟩
  | true =>
    have hf : ∃ (x : Int) (d b : Bool), ((∃ f, find k fs = some f ∧ x = f.x ∧ d = f.dn ∧ b = true) ∨ (find k fs = none ∧ x = 0 ∧ d = false ∧ b = false)) := by
      cases find k fs with
      | none => exact ⟨0, false, false, .inr ⟨rfl, rfl, rfl, rfl⟩⟩
      | some f => exact ⟨f.x, f.dn, true, .inl ⟨f, rfl, rfl, rfl, rfl⟩⟩
    obtain ⟨x, d, b, g1⟩ := hf
    refine ⟨x, d, b, 0, touchS ms t 5 ((sOf n k : Nat) : Int), touch_len _ _ _ _, Nat.le_succ _, fun W H => ?_, fun W H => ?_⟩
    · obtain ⟨Om, Ot, O, h1, h2⟩ := H.t_of
      refine (find_yes h1 hl t k hk x d b _ rfl hh g1).mono ?_
      rintro e w' ⟨O', rfl, h⟩
      exact ⟨rfl, h2 _ _ _ _ _ h⟩
    · obtain ⟨Om, Ot, O, h1, h2⟩ := H.u_of
      refine (R.find_yes h1 hl hfl t k hk x d b _ rfl hh g1).mono ?_
      rintro e w' ⟨O', O2, rfl, h⟩
      exact ⟨rfl, h2 _ _ _ _ _ h⟩
theorem Kys.zero {W : World} {b : Nat} {p : Option Addr} {ks : List AutM.Ke} (H : Kys W b p ks) : Kys W 0 p ks := fun h0 => by
  obtain ⟨g, e1, -, e3, e4⟩ := H h0
  exact ⟨g, e1, Nat.zero_le _, e3, e4⟩
theorem Kys.nil (W : World) (b : Nat) (p : Option Addr) : Kys W b p [] := fun h => absurd h (Nat.lt_irrefl 0)
theorem part_le (c : AutM.Ke → Nat) (i : Nat) (fs : List Fl) : (partG c i fs).length ≤ fs.length := by unfold partG; exact List.length_filter_le _ _
/-- Keys of both, the one list kept while the other is made. -/
theorem keys2 {W : World} (H : P2 w mb B rb C n ms fs ms fs W) (hl : ms.ls.length ≤ 1000000000000) (hfl : fs.length ≤ 100000) (t s : Int) : ∃ (ve : Int) (L : List AutM.Ke) (ms' : Ms), ms'.ls.length ≤ ms.ls.length + 1 ∧ L.length ≤ fs.length ∧
    Calls Try.prog 19 #[ptr B, .int .i64 t, .int .i64 s] W fun e w1 => ∃ p c, e = .returned (.tuple #[.slice p L.length c, .int .i64 ve]) ∧ P2 w mb B rb C n ms' fs ms fs w1 ∧
    Calls Try.prog 20 #[ptr C, .int .i64 t, .int .i64 s] w1 fun e2 w2 => ∃ p2 c2, e2 = .returned (.tuple #[.slice p2 L.length c2, .int .i64 ve]) ∧ Kys w2 0 p L ∧ Kys w2 0 p2 L ∧ P2 w mb B rb C n ms' fs ms' fs w2 := by
  obtain ⟨Om, Ot, Oq, Ou, ht, hu, hd⟩ := H
  by_cases h0 : s < 0 ∨ (n : Int) ≤ s
  · refine ⟨1, [], ms, Nat.le_succ _, Nat.zero_le _, (keys_arg ht t s h0).mono ?_⟩
    rintro e w1 ⟨rfl, rfl⟩
    refine ⟨none, 0, rfl, ⟨Om, Ot, Oq, Ou, ht, hu, hd⟩, (R.keys_bad hu t s 1 (by unfold R.mayV; rw [if_pos h0]) (by decide)).mono ?_⟩
    rintro e w2 ⟨rfl, rfl⟩
    exact ⟨none, 0, rfl, Kys.nil _ _ _, Kys.nil _ _ _, Om, Ot, Oq, Ou, ht, hu, hd⟩
  · obtain ⟨i, rfl⟩ : ∃ i : Nat, s = (i : Int) := ⟨s.toNat, by omega⟩
    have hi : i < n := by omega
    cases hh : heldB ms t (i : Int) with
    | false =>
      refine ⟨13, [], ms, Nat.le_succ _, Nat.zero_le _, (keys_no ht t i hi hh).mono ?_⟩
      rintro e w1 ⟨rfl, rfl⟩
      refine ⟨none, 0, rfl, ⟨Om, Ot, Oq, Ou, ht, hu, hd⟩, (R.keys_bad hu t i 13 (by rw [R.mayV_at hi false hh]; rfl) (by decide)).mono ?_⟩
      rintro e w2 ⟨rfl, rfl⟩
      exact ⟨none, 0, rfl, Kys.nil _ _ _, Kys.nil _ _ _, Om, Ot, Oq, Ou, ht, hu, hd⟩
    | true =>
      refine ⟨0, (part n i fs).map (·.k), touchS ms t 5 (i : Int), touch_len _ _ _ _, by rw [List.length_map]; exact part_le _ _ _, ?_⟩
      have hq : ∀ j, Oq j ∨ Ou j → j < W.heap.size := fun j hj => hj.elim (hu.mem.lt j) (hu.tab.lt_ j)
      refine (keys_yes (ht.with (O := fun j => Oq j ∨ Ou j) fun j hj => ⟨fun h => hd j (.inl h) hj, fun h => hd j (.inr h) hj⟩) hl hfl t i hi hh).mono ?_
      rintro e w1 ⟨p, c, Om', rfl, hk, h⟩
      obtain ⟨h1, h2, h3⟩ := h.without hq
      have hu1 := rm_keep hu h1.bel h1.fr h2
      refine ⟨p, c, by rw [List.length_map], ⟨Om', Ot, Oq, Ou, h1, hu1, fun j hj hq' => hj.elim (h3 j hq').1 (h3 j hq').2⟩, ?_⟩
      have hE : ∀ j, ((Om' j ∨ Ot j) ∨ (W.heap.size ≤ j ∧ j < w1.heap.size)) → ¬ Oq j ∧ ¬ Ou j := fun j hj => by
        have key : Oq j ∨ Ou j → False := fun hq' => by
          rcases hj with hj | hj
          · exact hj.elim (h3 j hq').1 (h3 j hq').2
          · have := hq j hq'; omega
        exact ⟨fun h => key (.inl h), fun h => key (.inr h)⟩
      have hlt : ∀ j, ((Om' j ∨ Ot j) ∨ (W.heap.size ≤ j ∧ j < w1.heap.size)) → j < w1.heap.size := fun j hj => by
        rcases hj with (hj | hj) | hj
        · exact h1.mem.lt j hj
        · exact h1.tab.lt_ j hj
        · exact hj.2
      refine (R.keys_yes (hu1.with (O := fun j => (Om' j ∨ Ot j) ∨ (W.heap.size ≤ j ∧ j < w1.heap.size)) hE) hl hfl t i hi hh).mono ?_
      rintro e w2 ⟨p2, c2, Oq', rfl, hk2, hr⟩
      obtain ⟨r1, r2, r3⟩ := hr.without hlt
      exact ⟨p2, c2, by rw [List.length_map], (Kys.same hk fun j hj => r2 j (.inr hj)).zero, hk2.zero, Om', Ot, Oq', Ou, h1.keep r1.bel r1.fr fun j hj => r2 j (.inl hj), r1, fun j hj hq' => hq'.elim (r3 j (.inl hj)).1 (r3 j (.inl hj)).2⟩
end
end Tb
end Go.Proofs.Ytgcnhbjoalemlaa
