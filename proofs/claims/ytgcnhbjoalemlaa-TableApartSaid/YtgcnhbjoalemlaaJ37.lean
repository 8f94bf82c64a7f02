/- Several texts of this proof in one file, each in its own namespace. -/
import Derived.Test.YtgcnhbjoalemlaaJ36
import Derived.Test.YtgcnhbjoalemlaaComQ
import Derived.Test.YtgcnhbjoalemlaaJ10
import Derived.Test.YtgcnhbjoalemlaaJ28
import Derived.Test.YtgcnhbjoalemlaaJ9
import Derived.ShutString
import Derived.ChangeOld
/- Layer 20: a slice of acts that came in, and an act by value. -/
set_option linter.unusedVariables false
set_option linter.unusedSimpArgs false
set_option maxRecDepth 100000
namespace Go.Proofs.Ytgcnhbjoalemlaa
open Go.ChangeShapes Go.WideShapes Go.ChangeAt Go.RowKit Go.Mtl Go.Lib Go.Deep
namespace Tb
open TabM
/-- An act: its kind, its thread, a number, a key and a bool. -/
structure Dt where
  kd : Nat
  th : Int
  at_ : Int
  k : AutM.Ke
  tn : Bool
structure Dt.Ok (x : Dt) : Prop where
  kd : x.kd < 256
  th : -9223372036854775808 ≤ x.th ∧ x.th ≤ 9223372036854775807
  at_ : -9223372036854775808 ≤ x.at_ ∧ x.at_ ≤ 9223372036854775807
  k : x.k.Ok
def dtC (x : Dt) : Array Value := #[.int .u8 x.kd, .int .i64 x.th, .int .i64 x.at_, .int .u32 x.k.a, .int .u32 x.k.b, .int .u16 x.k.p, .int .u16 x.k.q, .int .u8 x.k.r, .bool x.tn]
/-- The slice v reads as these acts; where it is not empty it lies below block B. -/
def Dts (w : World) (B : Nat) (v : Value) (xs : List Dt) : Prop :=
  ∃ A c, v = .slice A xs.length c ∧ xs.length ≤ c ∧ c ≤ 9223372036854775807 ∧ (0 < xs.length → ∃ b off, A = some ⟨b, off, none⟩ ∧ b < B ∧ ∀ (i : Nat) (x : Dt), xs[i]? = some x → ∀ (j : Nat) (u : Value), (dtC x)[j]? = some u → w.cell? ⟨b, off + (i * 9 + j), none⟩ = some u)
theorem Dts.keep {w w' : World} {B : Nat} {v : Value} {xs : List Dt} (h : Dts w B v xs) (hk : ∀ p : Addr, p.block < B → w'.cell? p = w.cell? p) : Dts w' B v xs := by
  obtain ⟨A, c, e, h1, h2, h3⟩ := h
  refine ⟨A, c, e, h1, h2, fun hn => ?_⟩
  obtain ⟨b, off, e2, hb, hc⟩ := h3 hn
  exact ⟨b, off, e2, hb, fun i x hx j u hu => (hk ⟨b, _, none⟩ hb).trans (hc i x hx j u hu)⟩
theorem Dts.below {w w' : World} {B : Nat} {v : Value} {xs : List Dt} (h : Dts w B v xs) (hb : Below B w w') : Dts w' B v xs := h.keep fun _ hp => hb.cell hp
/-- One of the acts: where its cells are. -/
theorem Dts.at_ {w : World} {B : Nat} {v : Value} {xs : List Dt} (h : Dts w B v xs) {len : Nat} (hl : xs.length = len) {i : Nat} {x : Dt} (hx : xs[i]? = some x) :
    ∃ b off c, v = .slice (some ⟨b, off, none⟩) len c ∧ len ≤ c ∧ c ≤ 9223372036854775807 ∧ b < B ∧ w.rangeAt b (off + i * 9) (dtC x).toList := by
  subst hl
  obtain ⟨A, c, rfl, h1, h2, h3⟩ := h
  obtain ⟨b, off, rfl, hb, hc⟩ := h3 (by have := (List.getElem?_eq_some_iff.1 hx).1; omega)
  refine ⟨b, off, c, rfl, h1, h2, hb, fun j u hu => ?_⟩
  rw [Nat.add_assoc]
  exact hc i x hx j u (by simpa using hu)
section
variable {H : Type} {enc : TypeId × Value → H} {P : Program} {w : World} {base : Nat} {spare : Nat → Bool} {held : Bool}
/-- The types of an act, of one program. -/
structure DtTypes (P : Program) (t : TypeId) : Prop where
  ty : ∃ (fs fk : Array Field) (t8 ti tk ta tb t32 t16 tn : TypeId), P.underlying t = some (.struct fs) ∧ fs.toList.map (fun f => (f.type, f.offset)) = [(t8, 0), (ti, 1), (ti, 2), (tk, 3), (tn, 8)] ∧
    P.underlying t8 = some (.int .u8) ∧ P.underlying ti = some (.int .i64) ∧ P.underlying tn = some .bool ∧
    P.underlying tk = some (.struct fk) ∧ fk.toList.map (fun f => (f.type, f.offset)) = [(ta, 0), (tb, 2), (t8, 4)] ∧ P.underlying ta = some (.array 2 t32) ∧ P.underlying tb = some (.array 2 t16) ∧ P.underlying t32 = some (.int .u32) ∧ P.underlying t16 = some (.int .u16) ∧
    P.cellsOf t = 9 ∧ P.cellsOf t8 = 1 ∧ P.cellsOf ti = 1 ∧ P.cellsOf tn = 1 ∧ P.cellsOf tk = 5 ∧ P.cellsOf ta = 2 ∧ P.cellsOf tb = 2 ∧ P.cellsOf t32 = 1 ∧ P.cellsOf t16 = 1
/-- The nine cells of an act that was read. -/
theorem open_nine {t : TypeId} (D : DtTypes P t) {n : Nat} {cs : List Value} (hl : cs.length = 9) {x : DataW H × List MemPlace} (h : DataW.trod enc P w base spare held n t cs = some x) : ∃ y : Dt, cs = (dtC y).toList ∧ y.Ok := by
  obtain ⟨fs, fk, t8, ti, tk, ta, tb, t32, t16, tn, hs, hf, h8, hi, hn, hk, hkf, hta, htb, h32, h16, ct, c8, ci, cn, ck, ca, cb, c32, c16⟩ := D.ty
  obtain ⟨ys, m, _, _, _, hyl, hg⟩ := DataW.trod_struct hs h
  obtain ⟨fl⟩ := fs
  obtain ⟨f0, f1, f2, f3, f4, rfl⟩ : ∃ f0 f1 f2 f3 f4, fl = [f0, f1, f2, f3, f4] := by
    rcases fl with _ | ⟨f0, _ | ⟨f1, _ | ⟨f2, _ | ⟨f3, _ | ⟨f4, _ | ⟨f5, fl⟩⟩⟩⟩⟩⟩
    · simp at hf
    · simp at hf
    · simp at hf
    · simp at hf
    · simp at hf
    · exact ⟨_, _, _, _, _, rfl⟩
    · simp at hf
  simp only [List.map_cons, List.map_nil, List.cons.injEq, Prod.mk.injEq, and_true] at hf
  obtain ⟨⟨e0, o0⟩, ⟨e1, o1⟩, ⟨e2, o2⟩, ⟨e3, o3⟩, e4, o4⟩ := hf
  have hy : ys.length = 5 := hyl
  have g0 := hg 0 f0 rfl
  have g1 := hg 1 f1 rfl
  have g2 := hg 2 f2 rfl
  have g3 := hg 3 f3 rfl
  have g4 := hg 4 f4 rfl
  rw [e0, o0, c8, List.getElem?_eq_getElem (by omega)] at g0
  rw [e1, o1, ci, List.getElem?_eq_getElem (by omega)] at g1
  rw [e2, o2, ci, List.getElem?_eq_getElem (by omega)] at g2
  rw [e3, o3, ck, List.getElem?_eq_getElem (by omega)] at g3
  rw [e4, o4, cn, List.getElem?_eq_getElem (by omega)] at g4
  match cs, hl with
  | [v0, v1, v2, k0, k1, k2, k3, k4, vb], _ =>
    simp only [List.drop_zero, List.take_succ_cons, List.take_zero, List.drop_succ_cons] at g0 g1 g2 g3 g4
    obtain ⟨kd, ekd, _, wkd⟩ := DataW.trod_int h8 g0
    obtain ⟨xt, ext, _, wxt⟩ := DataW.trod_int hi g1
    obtain ⟨xa, exa, _, wxa⟩ := DataW.trod_int hi g2
    obtain ⟨b, eb, _⟩ := DataW.trod_bool hn g4
    obtain rfl : v0 = .int .u8 kd := by simpa using ekd
    obtain rfl : v1 = .int .i64 xt := by simpa using ext
    obtain rfl : v2 = .int .i64 xa := by simpa using exa
    obtain rfl : vb = .bool b := by simpa using eb
    obtain ⟨ks, m2, _, _, _, hkl, hkg⟩ := DataW.trod_struct hk g3
    obtain ⟨fl2⟩ := fk
    obtain ⟨j0, j1, j2, rfl⟩ : ∃ j0 j1 j2, fl2 = [j0, j1, j2] := by
      rcases fl2 with _ | ⟨f0, _ | ⟨f1, _ | ⟨f2, _ | ⟨f3, fl⟩⟩⟩⟩
      · simp at hkf
      · simp at hkf
      · simp at hkf
      · exact ⟨_, _, _, rfl⟩
      · simp at hkf
    simp only [List.map_cons, List.map_nil, List.cons.injEq, Prod.mk.injEq, and_true] at hkf
    obtain ⟨⟨a0, oo0⟩, ⟨a1, oo1⟩, a2, oo2⟩ := hkf
    have m0 := hkg 0 j0 rfl
    have m1 := hkg 1 j1 rfl
    have m2 := hkg 2 j2 rfl
    have hkl3 : ks.length = 3 := hkl
    rw [a0, oo0, ca, List.getElem?_eq_getElem (by omega)] at m0
    rw [a1, oo1, cb, List.getElem?_eq_getElem (by omega)] at m1
    rw [a2, oo2, c8, List.getElem?_eq_getElem (by omega)] at m2
    simp only [List.drop_zero, List.take_succ_cons, List.take_zero, List.drop_succ_cons] at m0 m1 m2
    obtain ⟨x1, x2, rfl, rfl, w1, w2⟩ := open_two hta h32 c32 m0
    obtain ⟨x3, x4, rfl, rfl, w3, w4⟩ := open_two htb h16 c16 m1
    obtain ⟨x5, ex5, _, w5⟩ := DataW.trod_int h8 m2
    obtain rfl : k4 = .int .u8 x5 := by simpa using ex5
    have u1 := bounds_u32 w1
    have u2 := bounds_u32 w2
    have u3 := bounds_u16 w3
    have u4 := bounds_u16 w4
    have u5 := bounds_u8 w5
    have u0 := bounds_u8 wkd
    refine ⟨⟨kd.toNat, xt, xa, ⟨x1.toNat, x2.toNat, x3.toNat, x4.toNat, x5.toNat⟩, b⟩, ?_, ⟨by simp only; omega, bounds_i64 wxt, bounds_i64 wxa, ⟨by simp only; omega, by simp only; omega, by simp only; omega, by simp only; omega, by simp only; omega⟩⟩⟩
    simp only [dtC, List.cons.injEq, Value.int.injEq, true_and, and_true]
    refine ⟨by omega, by omega, by omega, by omega, by omega, by omega⟩
theorem open_dt {r0 : Reach} {b0 : Nat} {t : TypeId} (D : DtTypes P t) {v : Value} {d : DataW H} {p : List MemPlace} (hv : Value.okWide P w r0 b0 t v) (h : DataW.Trod enc P w base spare held t v d p) : ∃ x : Dt, v = .agg (dtC x) ∧ x.Ok := by
  have D' := D
  obtain ⟨fs, fk, t8, ti, tk, ta, tb, t32, t16, tn, hs, _, _, _, _, _, _, _, _, _, _, ct, _⟩ := D'.ty
  obtain ⟨vs, rfl, hsz⟩ := okWide_struct hs hv
  obtain ⟨fuel, hf⟩ := h
  rw [ct] at hsz
  have hc : (Value.agg vs).cells.toList = vs.toList := by simp [Value.cells]
  rw [hc] at hf
  obtain ⟨y, hy, ho⟩ := open_nine D (by simpa using hsz) hf
  refine ⟨y, ?_, ho⟩
  congr 1
  exact Array.toList_inj.1 hy
theorem open_dts {t e : TypeId} (D : DtTypes P e) (ht : P.underlying t = some (.slice e)) {A : Option Addr} {len cap : Nat} {d : DataW H} {p : List MemPlace}
    (h : DataW.Trod enc P w 0 (fun _ => true) true t (.slice A len cap) d p) : ∃ xs : List Dt, xs.length = len ∧ Dts w w.heap.size (.slice A len cap) xs ∧ ∀ x ∈ xs, x.Ok := by
  have hC : P.cellsOf e = 9 := by obtain ⟨fs, fk, t8, ti, tk, ta, tb, t32, t16, tn, hs, _, _, _, _, _, _, _, _, _, _, ct, _⟩ := D.ty; exact ct
  obtain ⟨fuel, hf⟩ := h
  rcases open_slice ht hf with ⟨hcs, _⟩ | ⟨a, l, c, m, n', D', Pl, hcs, hb, hl, hm, hmm, _, hi⟩
  · simp [Value.cells] at hcs
    obtain ⟨rfl, rfl, rfl⟩ := hcs
    exact ⟨[], rfl, ⟨none, 0, rfl, Nat.le_refl _, by omega, fun h => absurd h (by simp)⟩, fun x hx => by cases hx⟩
  · simp [Value.cells] at hcs
    obtain ⟨rfl, rfl, rfl⟩ := hcs
    simp at hmm
    subst hmm
    rw [hC] at hi
    have each : ∀ i, i < len → ∃ y : Dt, y.Ok ∧ ∀ (j : Nat) (u : Value), (dtC y)[j]? = some u → w.cell? (a.add (i * 9 + j)) = some u := by
      intro i hlt
      obtain ⟨cs', hc, htr⟩ := hi i (by omega)
      obtain ⟨_, hcl, hat⟩ := World.cells?_some hc
      obtain ⟨y, hy, hok⟩ := open_nine D hcl htr
      refine ⟨y, hok, fun j u hu => ?_⟩
      have hj : j < 9 := (Array.getElem?_eq_some_iff.1 hu).1
      rw [← Go.Deep.add_add, hat j hj, hy, ← hu]
      simp
    have all : ∀ n, n ≤ len → ∃ xs : List Dt, xs.length = n ∧ (∀ x ∈ xs, x.Ok) ∧ ∀ (i : Nat) (x : Dt), xs[i]? = some x → ∀ (j : Nat) (u : Value), (dtC x)[j]? = some u → w.cell? (a.add (i * 9 + j)) = some u := by
      intro n
      induction n with
      | zero => intro _; exact ⟨[], rfl, (fun x hx => by cases hx), (fun i x hx => by simp at hx)⟩
      | succ n ih =>
        intro hn
        obtain ⟨xs, h1, h2, h3⟩ := ih (by omega)
        obtain ⟨y, ho, hc⟩ := each n (by omega)
        refine ⟨xs ++ [y], by simp [h1], fun q hq => ?_, fun i q hq => ?_⟩
        · rcases List.mem_append.1 hq with hq | hq
          · exact h2 q hq
          · rw [List.mem_singleton.1 hq]; exact ho
        · by_cases hj : i < xs.length
          · rw [List.getElem?_append_left hj] at hq
            exact h3 i q hq
          · have hq2 : i < (xs ++ [y]).length := (List.getElem?_eq_some_iff.1 hq).1
            have hin : i = n := by simp at hq2; omega
            subst hin
            rw [List.getElem?_append_right (by omega), h1, Nat.sub_self] at hq
            simp at hq
            subst hq
            exact hc
    obtain ⟨xs, h1, h2, h3⟩ := all len (Nat.le_refl _)
    refine ⟨xs, h1, ⟨some a, m, by rw [h1], by omega, by unfold maxLen at hm; omega, fun hn => ?_⟩, fun x hx => h2 x hx⟩
    obtain ⟨b, off, sp⟩ := a
    obtain ⟨x, hx⟩ : ∃ x, xs[0]? = some x := ⟨_, List.getElem?_eq_getElem hn⟩
    have hc0 := h3 0 x hx 0 _ rfl
    obtain rfl : sp = none := by simpa [Addr.add] using World.cell?_spot hc0
    have hb0 := World.block_lt_of_cell? _ _ hc0
    refine ⟨b, off, rfl, by simpa [Addr.add] using hb0, fun i x hx j u hu => ?_⟩
    have e : ∀ j, Addr.add ⟨b, off, none⟩ j = ⟨b, off + j, none⟩ := fun j => by unfold Addr.add; split <;> simp_all
    rw [← e]
    exact h3 i x hx j u hu
end
theorem dtTypes : DtTypes Try.prog 39 :=
  ⟨_, _, 5, 3, 37, 33, 35, 32, 34, 4, Try.underlying39, by kernel_rfl,
    Try.underlying5, Try.underlying3, Try.underlying4, Try.underlying37, by kernel_rfl, Try.underlying33, Try.underlying35, Try.underlying32, Try.underlying34,
    by kernel_rfl, by kernel_rfl, by kernel_rfl, by kernel_rfl, by kernel_rfl, by kernel_rfl, by kernel_rfl, by kernel_rfl, by kernel_rfl⟩
end Tb
end Go.Proofs.Ytgcnhbjoalemlaa
/- Layer 20: the walk of TableHeld. -/
set_option linter.unusedVariables false
set_option linter.unusedSimpArgs false
set_option maxRecDepth 100000
namespace Go.Proofs.Ytgcnhbjoalemlaa
open Go.ChangeShapes Go.WideShapes Go.ChangeAt Go.RowKit Go.Mtl Go.Lib
namespace Tb
open TabM
open KeyM (isPow hashN strN)
open MemM (Ms holdV touchS newS lockS lockB unlockS unlockV say has at_)
open Me (ptr)
theorem rep_at : ∀ s : Nat, s < 16 → (List.replicate 16 (-1 : Int)).getD s 0 = -1 := by decide
theorem set_at : ∀ s : Nat, s < 16 → ((List.replicate 16 (-1 : Int)).set s 1).getD s 0 = 1 := by decide
/-- Every mutex of the sixteen is free; at most a accesses. -/
def Free (ms : Ms) (a : Nat) : Prop := ms.hs = List.replicate 16 (-1) ∧ ms.ls.length ≤ a
theorem free_new : Free (newS 0 16) 0 := ⟨by decide, Nat.le_refl _⟩
theorem Free.held {ms : Ms} {a : Nat} (h : Free ms a) (t i : Int) : heldB ms t i = false := by
  have hv : holdV ms i = -1 := by
    unfold holdV
    split
    · rename_i hh
      obtain ⟨j, rfl, hj⟩ := MemM.has_yes hh
      rw [h.1] at hj
      simp only [List.length_replicate] at hj
      rw [MemM.at_nat, h.1, rep_at j hj]
    · rfl
  unfold heldB
  rw [hv]
  by_cases h0 : 0 ≤ t
  · have : (-1 == t) = false := by simp; omega
    rw [this, Bool.and_false]
  · rw [decide_eq_false h0, Bool.false_and]
/-- Held by 1 alone: mutex s. -/
def One (ms : Ms) (s a : Nat) : Prop := ms.hs = (List.replicate 16 (-1)).set s 1 ∧ ms.ls.length ≤ a
theorem Free.lock {ms : Ms} {a : Nat} (h : Free ms a) {s : Nat} (hs : s < 16) : One (lockS ms 1 (s : Int)) s (a + 1) := by
  have hb : lockB ms 1 (s : Int) = true := by
    unfold lockB has
    rw [MemM.at_nat, h.1, rep_at s hs]
    simp
    omega
  unfold lockS
  rw [if_pos hb]
  exact ⟨by show ms.hs.set _ _ = _; rw [h.1]; rfl, by show (ms.ls ++ _).length ≤ _; have := h.2; simp; omega⟩
theorem One.held {ms : Ms} {s a : Nat} (h : One ms s a) (hs : s < 16) : heldB ms 1 (s : Int) = true := by
  unfold heldB holdV has
  rw [h.1, MemM.at_nat, set_at s hs]
  simp
  omega
theorem One.touch {ms : Ms} {s a : Nat} (h : One ms s a) (k i : Int) : One (touchS ms 1 k i) s (a + 1) := by
  unfold touchS
  split
  · exact ⟨h.1, by show (ms.ls ++ _).length ≤ _; have := h.2; simp; omega⟩
  · exact ⟨h.1, Nat.le_succ_of_le h.2⟩
theorem One.unlock {ms : Ms} {s a : Nat} (h : One ms s a) (hs : s < 16) : Free (unlockS ms 1 (s : Int)) (a + 1) := by
  have hv : unlockV ms 1 (s : Int) = 0 := by
    unfold unlockV has
    rw [MemM.at_nat, h.1, set_at s hs]
    simp
    omega
  unfold unlockS
  rw [if_pos hv]
  refine ⟨?_, by show (ms.ls ++ _).length ≤ _; have := h.2; simp; omega⟩
  show ms.hs.set _ _ = _
  rw [h.1]
  simp only [Int.toNat_natCast, List.set_set]
  apply List.ext_getElem (by simp)
  intro i h1 h2
  rw [List.getElem_set]
  split
  · rw [List.getElem_replicate]
  · rw [List.getElem_replicate]
theorem pow_wrap5 (m N : Nat) (h : 2 ^ (m % 5) = N) : wrap64 ((2 : Int) ^ (m % 5)) = (N : Int) ∧ isPow (N : Int) = true ∧ 1 ≤ N ∧ N ≤ 16 := by
  have h2 : m % 5 < 5 := Nat.mod_lt _ (by decide)
  generalize m % 5 = q at h h2
  subst h
  have : q = 0 ∨ q = 1 ∨ q = 2 ∨ q = 3 ∨ q = 4 := by omega
  rcases this with rfl | rfl | rfl | rfl | rfl <;> exact ⟨by unfold wrap64; omega, by decide, by decide, by decide⟩
/-- An act's cells. -/
def Nine (w : World) (b o : Nat) (x : Dt) : Prop :=
  w.cell? ⟨b, o, none⟩ = some (.int .u8 x.kd) ∧ w.cell? ⟨b, o + 1, none⟩ = some (.int .i64 x.th) ∧ w.cell? ⟨b, o + 2, none⟩ = some (.int .i64 x.at_) ∧
  w.cell? ⟨b, o + 3, none⟩ = some (.int .u32 x.k.a) ∧ w.cell? ⟨b, o + 4, none⟩ = some (.int .u32 x.k.b) ∧ w.cell? ⟨b, o + 5, none⟩ = some (.int .u16 x.k.p) ∧ w.cell? ⟨b, o + 6, none⟩ = some (.int .u16 x.k.q) ∧ w.cell? ⟨b, o + 7, none⟩ = some (.int .u8 x.k.r) ∧ w.cell? ⟨b, o + 8, none⟩ = some (.bool x.tn)
theorem nine_of {w : World} {b o : Nat} {x : Dt} (h : w.rangeAt b o (dtC x).toList) : Nine w b o x :=
  ⟨h 0 _ rfl, h 1 _ rfl, h 2 _ rfl, h 3 _ rfl, h 4 _ rfl, h 5 _ rfl, h 6 _ rfl, h 7 _ rfl, h 8 _ rfl⟩
theorem nine_box (w : World) (x : Dt) : Nine (w.alloc (.cells (dtC x) 39)) w.heap.size 0 x := by
  have h := Blk.box w (dtC x) 39
  exact ⟨h.cell 0 _ rfl, h.cell 1 _ rfl, h.cell 2 _ rfl, h.cell 3 _ rfl, h.cell 4 _ rfl, h.cell 5 _ rfl, h.cell 6 _ rfl, h.cell 7 _ rfl, h.cell 8 _ rfl⟩
theorem Nine.below {w w' : World} {b o n : Nat} {x : Dt} (h : Nine w b o x) (hn : b < n) (hb : Below n w w') : Nine w' b o x := by
  obtain ⟨h0, h1, h2, h3, h4, h5, h6, h7, h8⟩ := h
  exact ⟨(hb.cell (p := ⟨b, _, none⟩) hn).trans h0, (hb.cell (p := ⟨b, _, none⟩) hn).trans h1, (hb.cell (p := ⟨b, _, none⟩) hn).trans h2, (hb.cell (p := ⟨b, _, none⟩) hn).trans h3, (hb.cell (p := ⟨b, _, none⟩) hn).trans h4, (hb.cell (p := ⟨b, _, none⟩) hn).trans h5, (hb.cell (p := ⟨b, _, none⟩) hn).trans h6, (hb.cell (p := ⟨b, _, none⟩) hn).trans h7, (hb.cell (p := ⟨b, _, none⟩) hn).trans h8⟩
theorem Kys.same {w w' : World} {b : Nat} {p : Option Addr} {ks : List AutM.Ke} (H : Kys w b p ks) (h : ∀ j, b ≤ j ∧ j < w.heap.size → w'.heap[j]? = w.heap[j]?) : Kys w' b p ks := fun h0 => by
  obtain ⟨g, e1, e2, e3, e4⟩ := H h0
  have hg := h g ⟨e2, e3⟩
  have hc : ∀ x, w'.cell? ⟨g, x, none⟩ = w.cell? ⟨g, x, none⟩ := fun x => World.cell?_of_block (w := w) (a := ⟨g, x, none⟩) hg
  exact ⟨g, e1, e2, some_lt (hg.trans (Array.getElem?_eq_getElem e3)), fun i k hk => ⟨(hc _).trans (e4 i k hk).c0, (hc _).trans (e4 i k hk).c1, (hc _).trans (e4 i k hk).c2, (hc _).trans (e4 i k hk).c3, (hc _).trans (e4 i k hk).c4⟩⟩
/-- Blocks that are newer than the memory and the table may be kept. -/
theorem TM.newer {w : Fw} {W w2 : World} {Om Ot : Nat → Prop} {mb B n : Nat} {ms : Ms} {fs : List Fl} (H : TM w Om Ot mb B ms n fs W) (hb : Below W.heap.size W w2) : TM (w.with (fun j => W.heap.size ≤ j ∧ j < w2.heap.size) w2) Om Ot mb B ms n fs w2 :=
  (H.next hb).with fun j hj => ⟨fun h => by have := H.mem.lt j h; omega, fun h => by have := H.tab.lt_ j h; omega⟩
/-- A stripe's keys, where nothing is held. -/
theorem Free.keys {ms : Ms} {a : Nat} (h : Free ms a) (n : Nat) (t s : Int) (hs : -9223372036854775808 ≤ s ∧ s ≤ 9223372036854775807) : ∃ ve : Int, (ve == 0) = false ∧ ∀ (w : Fw) (Om Ot : Nat → Prop) (mb B : Nat) (fs : List Fl) (W : World), TM w Om Ot mb B ms n fs W →
    Calls Try.prog 19 #[ptr B, .int .i64 t, .int .i64 s] W fun e w' => e = .returned (.tuple #[.slice none 0 0, .int .i64 ve]) ∧ W = w' := by
  by_cases h0 : 0 ≤ s ∧ s < n
  · obtain ⟨i, rfl⟩ : ∃ i : Nat, s = (i : Int) := ⟨s.toNat, by omega⟩
    exact ⟨13, by decide, fun w Om Ot mb B fs W H => keys_no H t i (by omega) (h.held _ _)⟩
  · exact ⟨1, by decide, fun w Om Ot mb B fs W H => keys_arg H t s (by omega)⟩
set_option maxHeartbeats 4000000 in
theorem tableHeld_walk (q : Int) (A : Option Addr) (len cap : Nat) (xs : List Dt) (x : Dt) (W : World) (hq : 0 ≤ q ∧ q ≤ 255) (hx : xs.length = len ∧ Dts W W.heap.size (.slice A len cap) xs ∧ ∀ y ∈ xs, y.Ok) (hxo : x.Ok) :
    Calls Try.prog 4 #[.int .u8 q, .slice A len cap, .agg (dtC x)] W fun e w' => e = .returned (.bool true) ∧ Below W.heap.size W w' := by
  obtain ⟨hl, hd, ho⟩ := hx
  obtain ⟨q0, q1⟩ := hq
  obtain ⟨m, rfl⟩ : ∃ m : Nat, q = (m : Int) := ⟨q.toNat, by omega⟩
  obtain ⟨N, hN⟩ : ∃ N : Nat, 2 ^ (m % 5) = N := ⟨_, rfl⟩
  obtain ⟨hw, hP, hN1, hN2⟩ := pow_wrap5 m N hN
  have HX := Lib.hid (nine_box W x)
  have HB1 := Lib.hid (below_box W (.cells (dtC x) 39))
  have HG : Hid (W.heap.size < (W.alloc (.cells (dtC x) 39)).heap.size) := by show _ < _; rw [World.size_alloc]; omega
  have HD : Hid (∀ W', Below W.heap.size W W' → Dts W' W.heap.size (.slice A len cap) xs) := fun W' h => hd.below h
  have HL := Lib.hid hl
  have HO := Lib.hid ho
  have HXO := Lib.hid hxo
  obtain ⟨hcl, hcc⟩ : len ≤ cap ∧ cap ≤ 9223372036854775807 := by obtain ⟨A', c', e, h1, h2, _⟩ := hd; injection e with _ e2 e3; subst e3; exact ⟨by omega, h2⟩
  clear hd hl ho hxo
  go_enter Try.func4, Try.ntmps4
  go_wp2_with fail
  go_at_call 6
  obtain ⟨W1, hW1⟩ : ∃ v, W.alloc (.cells (dtC x) 39) = v := ⟨_, rfl⟩
  rw [hW1] at HX HB1 HG ⊢
  clear hW1
  refine (Me.new_any 0 16 _).mono ?_
  rintro e w0 ⟨Om, mb, rfl, hm, hb, hO⟩
  have HM0 := Lib.hid hm
  have HB0 := Lib.hid hb
  have HO0 := Lib.hid hO
  clear hm hb hO
  go_wp2_with fail
  go_at_call 8
  refine (new_ok w0 mb N hP).mono ?_
  rintro e w1 ⟨Ot, B, rfl, ht, hb, hO⟩
  have H1 : Hid (TM (fw W1) Om Ot mb B (newS 0 16) N [] w1) := TM.make HM0.out HB0.out HO0.out ht hb hO
  clear ht hb hO HM0 HB0 HO0 hw hN
  have HNX : Hid (∀ Om ms fs w', TM (fw W1) Om Ot mb B ms N fs w' → Nine w' W.heap.size 0 x) := fun Om ms fs w' h => HX.out.below HG.out h.bel
  have HDW : Hid (∀ Om ms fs w', TM (fw W1) Om Ot mb B ms N fs w' → Below W.heap.size W w') := fun Om ms fs w' h => HB1.out.trans (h.bel.mono HB1.out.size)
  clear HX
  go_wp2_with fail
  go_loopw [10] (fun vi wr => ∃ (i : Nat) (Om : Nat → Prop) (ms : Ms) (fs : List Fl), vi = .int .i64 (i : Int) ∧ i ≤ len ∧ i ≤ 40 ∧ Hid (TM (fw W1) Om Ot mb B ms N fs wr) ∧ Hid (Free ms (3 * i) ∧ fs.length ≤ i)) (fun vi _ => 40 - (RowKit.intOf vi).toNat)
  case atStart => exact ⟨0, Om, _, [], rfl, by omega, by omega, H1, ⟨free_new, Nat.le_refl _⟩⟩
  case round =>
    obtain ⟨i, Omi, ms, fs, rfl, hi1, hi2, HM, HI⟩ := hrel
    clear H1
    by_cases h1 : i < len
    · by_cases h2 : i < 40
      · obtain ⟨y, hy⟩ : ∃ y, xs[i]? = some y := ⟨_, List.getElem?_eq_getElem (by rw [HL.out]; exact h1)⟩
        obtain ⟨b, off, c, ev, -, -, hbW, -⟩ := (HD.out _ (HDW.out _ _ _ _ HM.out)).at_ HL.out hy
        injection ev with ev _ ec
        subst ev ec
        have HNY : Hid (∀ Om ms fs w', TM (fw W1) Om Ot mb B ms N fs w' → Nine w' b (off + i * 9) y) := fun Om ms fs w' h => by
          obtain ⟨b', off', c', ev, -, -, -, hr⟩ := (HD.out _ (HDW.out _ _ _ _ h)).at_ HL.out hy
          injection ev with ev _ ec
          injection ev with ev
          injection ev with e1 e2 _
          subst e1 e2
          exact nine_of hr
        have HYO : Hid y.Ok := HO.out y (List.mem_of_getElem? hy)
        obtain ⟨s, hs⟩ : ∃ s, sOf N y.k = s := ⟨_, rfl⟩
        have HS : Hid (sOf N y.k = s ∧ s < 16) := ⟨hs, by have := sOf_lt (show 0 < N by omega) y.k; omega⟩
        have HST : Hid (∀ W', Calls Try.prog 28 #[.agg (Ky.kyc y.k.a y.k.b y.k.p y.k.q y.k.r), .int .i64 (N : Int)] W' fun e w' => e = .returned (.int .i64 (s : Int)) ∧ Below W'.heap.size W' w') := fun W' =>
          Ky.refStripe_any y.k.a y.k.b y.k.p y.k.q y.k.r (N : Int) HYO.out.k.a HYO.out.k.b HYO.out.k.p HYO.out.k.q HYO.out.k.r _ rfl _ (by rw [str_is hP, hs]) W'
        clear hs hy hbW
        obtain ⟨x0, x1, x2, x3, x4, x5, x6, x7, x8⟩ := HNY.out _ _ _ _ HM.out
        go_wp2_with fail
        go_at_call 28
        refine (HST.out _).mono ?_
        rintro e w2 ⟨rfl, hb⟩
        have HM2 := Lib.hid (HM.out.next hb)
        clear hb HM HST x0 x1 x2 x3 x4 x5 x6 x7 x8
        go_wp2_with fail
        go_at_call 11
        have HI1 := Lib.hid (HI.out.1.lock HS.out.2)
        have HL1 : Hid ((lockS ms 1 (s : Int)).ls.length ≤ 1000000000000) := Lib.hid (by have := HI1.out.2; omega)
        have HL2 := Lib.hid (HI1.out.held HS.out.2)
        refine (Me.lock_any HM2.out.mem 1 (s : Int) (by omega) (by have := HI.out.1.2; omega)).mono ?_
        intro e w3 hd
        obtain ⟨Om2, rfl, h⟩ := HM2.out.does hd
        have H3 := Lib.hid h
        clear hd h HM2
        go_wp2_with fail
        refine region_e (S := fun w' => Hid (TM (fw W1) Om2 Ot mb B (lockS ms 1 (s : Int)) N fs w')) 12 (by kernel_rfl) (Lib.hid (H3.out.next (Below.refl _ _).drew)) (fun hH => ?_)
        refine anyE_take (i := 0) (oi := ⟨some 49, _, _, _, _, _⟩) (v := ?v1) rfl (by kernel_rfl) (by kernel_rfl) (by kernel_rfl) (by kernel_rfl) (fun _ _ _ h => h) (Or.inl ⟨rfl, ?c1⟩) hH ?r1
        case c1 => (intro w' _; go_simp; (try with_reducible rfl))
        try simp only [Act.put, List.setIfInBounds_toArray, List.set_cons_zero, List.set_cons_succ]
        refine anyF_take [3, 4, 5] (i := 1) (oi := ⟨some 50, _, _, _, _, _⟩) (v := ?v2) rfl (by kernel_rfl) (by kernel_rfl) (by kernel_rfl) (by kernel_rfl) (fun _ _ _ h => h) (Or.inl ⟨rfl, ?c2⟩) hH ?r2
        case c2 => (intro w' _; go_simp; (try with_reducible rfl))
        try simp only [Act.put, List.setIfInBounds_toArray, List.set_cons_zero, List.set_cons_succ]
        refine anyF_take [3, 4, 5] (i := 2) (oi := ⟨some 51, _, _, _, _, _⟩) (v := ?v3) rfl (by kernel_rfl) (by kernel_rfl) (by kernel_rfl) (by kernel_rfl) (fun _ _ _ h => h) (Or.inl ⟨rfl, ?c3⟩) hH ?r3
        case c3 => (intro w' _; go_simp; (try with_reducible rfl))
        try simp only [Act.put, List.setIfInBounds_toArray, List.set_cons_zero, List.set_cons_succ]
        refine anyF_take [4, 5] (i := 3) (oi := ⟨some 52, _, _, _, _, _⟩) (v := ?v4) rfl (by kernel_rfl) (by kernel_rfl) (by kernel_rfl) (by kernel_rfl) (fun _ _ _ h => h) (Or.inl ⟨rfl, ?c4⟩) hH ?r4
        case c4 => (intro w' _; go_simp; (try with_reducible rfl))
        try simp only [Act.put, List.setIfInBounds_toArray, List.set_cons_zero, List.set_cons_succ]
        refine anyF_take [5] (i := 4) (oi := ⟨some 53, _, _, _, _, _⟩) (v := ?v5) rfl (by kernel_rfl) (by kernel_rfl) (by kernel_rfl) (by kernel_rfl) (fun _ _ _ h => h) (Or.inl ⟨rfl, ?c5⟩) hH ?r5
        case c5 => (intro w' _; go_simp; (try with_reducible rfl))
        try simp only [Act.put, List.setIfInBounds_toArray, List.set_cons_zero, List.set_cons_succ]
        refine anyE_take (i := 5) (oi := ⟨some 54, _, _, _, _, _⟩) (v := ?v6) rfl (by kernel_rfl) (by kernel_rfl) (by kernel_rfl) (by kernel_rfl) (fun _ _ _ h => h) (Or.inl ⟨rfl, ?c6⟩) hH ?r6
        case c6 => (intro w' hS; obtain ⟨x0, x1, x2, x3, x4, x5, x6, x7, x8⟩ := HNY.out _ _ _ _ hS.out; go_simp; (try with_reducible rfl))
        try simp only [Act.put, List.setIfInBounds_toArray, List.set_cons_zero, List.set_cons_succ]
        refine anyE_take (i := 6) (oi := ⟨some 55, _, _, _, _, _⟩) (v := ?v7) rfl (by kernel_rfl) (by kernel_rfl) (by kernel_rfl) (by kernel_rfl) (fun _ _ _ h => h) (Or.inl ⟨rfl, ?c7⟩) hH ?r7
        case c7 => (intro w' _; go_simp; (try with_reducible rfl))
        try simp only [Act.put, List.setIfInBounds_toArray, List.set_cons_zero, List.set_cons_succ]
        refine anyF_take [9, 10, 11] (i := 7) (oi := ⟨some 56, _, _, _, _, _⟩) (v := ?v8) rfl (by kernel_rfl) (by kernel_rfl) (by kernel_rfl) (by kernel_rfl) (fun _ _ _ h => h) (Or.inl ⟨rfl, ?c8⟩) hH ?r8
        case c8 => (intro w' _; go_simp; (try with_reducible rfl))
        try simp only [Act.put, List.setIfInBounds_toArray, List.set_cons_zero, List.set_cons_succ]
        refine anyF_take [9, 10, 11] (i := 8) (oi := ⟨some 57, _, _, _, _, _⟩) (v := ?v9) rfl (by kernel_rfl) (by kernel_rfl) (by kernel_rfl) (by kernel_rfl) (fun _ _ _ h => h) (Or.inl ⟨rfl, ?c9⟩) hH ?r9
        case c9 => (intro w' _; go_simp; (try with_reducible rfl))
        try simp only [Act.put, List.setIfInBounds_toArray, List.set_cons_zero, List.set_cons_succ]
        refine anyF_take [10, 11] (i := 9) (oi := ⟨some 58, _, _, _, _, _⟩) (v := ?v10) rfl (by kernel_rfl) (by kernel_rfl) (by kernel_rfl) (by kernel_rfl) (fun _ _ _ h => h) (Or.inl ⟨rfl, ?c10⟩) hH ?r10
        case c10 => (intro w' _; go_simp; (try with_reducible rfl))
        try simp only [Act.put, List.setIfInBounds_toArray, List.set_cons_zero, List.set_cons_succ]
        refine anyF_take [11] (i := 10) (oi := ⟨some 59, _, _, _, _, _⟩) (v := ?v11) rfl (by kernel_rfl) (by kernel_rfl) (by kernel_rfl) (by kernel_rfl) (fun _ _ _ h => h) (Or.inl ⟨rfl, ?c11⟩) hH ?r11
        case c11 => (intro w' _; go_simp; (try with_reducible rfl))
        try simp only [Act.put, List.setIfInBounds_toArray, List.set_cons_zero, List.set_cons_succ]
        refine anyE_take (i := 11) (oi := ⟨some 60, _, _, _, _, _⟩) (v := ?v12) rfl (by kernel_rfl) (by kernel_rfl) (by kernel_rfl) (by kernel_rfl) (fun _ _ _ h => h) (Or.inl ⟨rfl, ?c12⟩) hH ?r12
        case c12 => (intro w' hS; obtain ⟨x0, x1, x2, x3, x4, x5, x6, x7, x8⟩ := HNY.out _ _ _ _ hS.out; go_simp; (try with_reducible rfl))
        try simp only [Act.put, List.setIfInBounds_toArray, List.set_cons_zero, List.set_cons_succ]
        refine anyE_ready (rs := [12]) (by kernel_rfl) (by simp) (AllE.end_ rfl (fun K hK => ?_))
        go_simp
        go_at_call 15
        refine (put_yes hH.out HL1.out 1 y.k HYO.out.k (i : Int) y.tn s HS.out.1 HL2.out ⟨by omega, by omega⟩).mono ?_
        rintro e w4 ⟨Om4, rfl, h⟩
        refine hK.out _ _ ?_
        clear hK K
        try simp only [Act.put, List.setIfInBounds_toArray, List.set_cons_zero, List.set_cons_succ]
        refine anyE_done (by kernel_rfl) ?_ _
        have H4 := Lib.hid h
        clear h H3
        have HI4 := Lib.hid (HI1.out.touch 6 (s : Int))
        have HF4 : Hid ((upd ⟨y.k, (i : Int), y.tn⟩ fs).length ≤ i + 1) := Nat.le_trans (len_upd _ _) (Nat.succ_le_succ HI.out.2)
        clear HL1 HL2 HI1
        go_wp2_with fail
        go_at_call 13
        refine (Me.unlock_any H4.out.mem 1 (s : Int) (by have := HI4.out.2; omega)).mono ?_
        intro e w5 hd
        obtain ⟨Om5, rfl, h⟩ := H4.out.does hd
        have H5 := Lib.hid h
        clear hd h H4
        go_wp2_with fail
        go_roundw
        case rel => exact ⟨i + 1, Om5, _, _, by go_num, by omega, by omega, H5, ⟨HI4.out.unlock HS.out.2, HF4.out⟩⟩
        case measure => simp [RowKit.intOf]; omega
      · have HFR := Lib.hid HI.out.1
        have HF0 : Hid (fs.length ≤ 100000) := by show _ ≤ _; have := HI.out.2; omega
        have HLL : Hid (ms.ls.length ≤ 1000000000000) := by show _ ≤ _; have := HI.out.1.2; omega
        clear HD HL HO
        go_wp2_with fail
        go_at_call 24
        refine (all_any HM.out HF0.out).mono ?_
        rintro e w2 ⟨p0, c0, rfl, hk, hb⟩
        have H2 := Lib.hid (HM.out.newer hb)
        obtain ⟨fr, hfr⟩ : ∃ v, (fw W1).with (fun j => wr.heap.size ≤ j ∧ j < w2.heap.size) w2 = v := ⟨_, rfl⟩
        have HNF : Hid (∀ Om w', TM fr Om Ot mb B ms N fs w' → Nine w' W.heap.size 0 x) := fun Om w' h => by
          rw [← hfr] at h
          exact HNX.out _ _ _ _ (h.without fun j hj => hj.2).1
        have HBF : Hid (∀ Om w', TM fr Om Ot mb B ms N fs w' → Below W.heap.size W w') := fun Om w' h => by
          rw [← hfr] at h
          exact HDW.out _ _ _ _ (h.without fun j hj => hj.2).1
        have HKF : Hid (∀ Om w', TM fr Om Ot mb B ms N fs w' → Kys w' wr.heap.size p0 (fs.map (·.k))) := fun Om w' h => by
          rw [← hfr] at h
          exact Kys.same hk (h.without fun j hj => hj.2).2.1
        rw [hfr] at H2
        clear hfr hk hb HM HNX HDW
        obtain ⟨fn, hfn⟩ : ∃ v, fs.length = v := ⟨_, rfl⟩
        have HFN := Lib.hid hfn
        have HKN : Hid ((fs.map (·.k)).length = fn) := by show _ = _; rw [List.length_map, hfn]
        have HFL : Hid (fn ≤ 100000) := by show _ ≤ _; rw [← hfn]; exact HF0.out
        rw [hfn]
        clear hfn
        go_wp2_with fail
        go_at_call 27
        refine (Me.log_any H2.out.mem HLL.out).mono ?_
        rintro e w3 ⟨v1, rfl, hv1, -, hb⟩
        obtain ⟨A3, c3, rfl, -, -⟩ := hv1.len
        have H3 := Lib.hid (H2.out.next hb)
        clear hb hv1 H2
        obtain ⟨x0, x1, x2, x3, x4, x5, x6, x7, x8⟩ := HNF.out _ _ H3.out
        go_wp2_with fail
        clear x0 x1 x2 x3 x4 x5 x6 x7 x8
        go_at_call 22
        refine (find_no H3.out x.th x.k HXO.out.k _ rfl (HFR.out.held _ _)).mono ?_
        rintro e w4 ⟨Om4, rfl, h⟩
        have H4 := Lib.hid h
        clear h H3
        obtain ⟨ve, hve, hk⟩ := HFR.out.keys N x.th x.at_ HXO.out.at_
        have HKE := Lib.hid (hk _ _ _ _ _ _ _ H4.out)
        clear hk
        obtain ⟨x0, x1, x2, x3, x4, x5, x6, x7, x8⟩ := HNF.out _ _ H4.out
        go_wp2_with fail
        clear x0 x1 x2 x3 x4 x5 x6 x7 x8
        go_at_call 19
        refine HKE.out.mono ?_
        rintro e w5 ⟨rfl, rfl⟩
        have H5 := H4
        clear H4 HKE
        go_wp2_with fail
        refine wp_region_held_drew (S := fun w' => Hid (∃ Om, TM fr Om Ot mb B ms N fs w')) (by kernel_rfl) (Lib.hid ⟨_, H5.out.next (Below.refl _ _).drew⟩) (fun hH => ?_)
        refine wpAnyH_take (i := 0) (oi := ⟨some 90, _, _, _, _, _⟩) (v := ?v201) rfl (by kernel_rfl) (by kernel_rfl) (by kernel_rfl) (fun _ _ _ h => h) (Or.inl ⟨rfl, ?c201⟩) hH ?r201
        case c201 => (intro w' _; go_simp; (try with_reducible rfl))
        try simp only [Act.put, List.setIfInBounds_toArray, List.set_cons_zero, List.set_cons_succ]
        refine wpAnyH_take (i := 1) (oi := ⟨some 91, _, _, _, _, _⟩) (v := ?v202) rfl (by kernel_rfl) (by kernel_rfl) (by kernel_rfl) (fun _ _ _ h => h) (Or.inl ⟨rfl, ?c202⟩) hH ?r202
        case c202 => (intro w' _; go_simp; (try with_reducible rfl))
        try simp only [Act.put, List.setIfInBounds_toArray, List.set_cons_zero, List.set_cons_succ]
        refine wpAnyH_take (i := 2) (oi := ⟨some 92, _, _, _, _, _⟩) (v := ?v203) rfl (by kernel_rfl) (by kernel_rfl) (by kernel_rfl) (fun _ _ _ h => h) (Or.inl ⟨rfl, ?c203⟩) hH ?r203
        case c203 => (intro w' hS; obtain ⟨_, hS⟩ := hS.out; obtain ⟨x0, x1, x2, x3, x4, x5, x6, x7, x8⟩ := HNF.out _ _ hS; go_simp; (try with_reducible rfl))
        try simp only [Act.put, List.setIfInBounds_toArray, List.set_cons_zero, List.set_cons_succ]
        refine wpAnyH_take (i := 3) (oi := ⟨some 93, _, _, _, _, _⟩) (v := ?v204) rfl (by kernel_rfl) (by kernel_rfl) (by kernel_rfl) (fun _ _ _ h => h) (Or.inl ⟨rfl, ?c204⟩) hH ?r204
        case c204 => (intro w' _; go_simp; (try with_reducible rfl))
        try simp only [Act.put, List.setIfInBounds_toArray, List.set_cons_zero, List.set_cons_succ]
        refine wpAnyH_take (i := 4) (oi := ⟨some 94, _, _, _, _, _⟩) (v := ?v205) rfl (by kernel_rfl) (by kernel_rfl) (by kernel_rfl) (fun _ _ _ h => h) (Or.inl ⟨rfl, ?c205⟩) hH ?r205
        case c205 => (intro w' hS; obtain ⟨_, hS⟩ := hS.out; obtain ⟨x0, x1, x2, x3, x4, x5, x6, x7, x8⟩ := HNF.out _ _ hS; go_simp; (try with_reducible rfl))
        try simp only [Act.put, List.setIfInBounds_toArray, List.set_cons_zero, List.set_cons_succ]
        refine wpAnyH_take (i := 6) (oi := ⟨some 96, _, _, _, _, _⟩) (v := ?v206) rfl (by kernel_rfl) (by kernel_rfl) (by kernel_rfl) (fun _ _ _ h => h) (Or.inl ⟨rfl, ?c206⟩) hH ?r206
        case c206 => (intro w' _; go_simp; (try with_reducible rfl))
        try simp only [Act.put, List.setIfInBounds_toArray, List.set_cons_zero, List.set_cons_succ]
        refine wpAnyH_take (i := 7) (oi := ⟨some 97, _, _, _, _, _⟩) (v := ?v207) rfl (by kernel_rfl) (by kernel_rfl) (by kernel_rfl) (fun _ _ _ h => h) (Or.inl ⟨rfl, ?c207⟩) hH ?r207
        case c207 => (intro w' _; go_simp; (try with_reducible rfl))
        try simp only [Act.put, List.setIfInBounds_toArray, List.set_cons_zero, List.set_cons_succ]
        refine wpAnyH_take (i := 8) (oi := ⟨some 98, _, _, _, _, _⟩) (v := ?v208) rfl (by kernel_rfl) (by kernel_rfl) (by kernel_rfl) (fun _ _ _ h => h) (Or.inl ⟨rfl, ?c208⟩) hH ?r208
        case c208 => (intro w' hS; obtain ⟨_, hS⟩ := hS.out; obtain ⟨x0, x1, x2, x3, x4, x5, x6, x7, x8⟩ := HNF.out _ _ hS; go_simp; (try with_reducible rfl))
        try simp only [Act.put, List.setIfInBounds_toArray, List.set_cons_zero, List.set_cons_succ]
        refine wpAnyH_take (i := 9) (oi := ⟨some 99, _, _, _, _, _⟩) (v := ?v209) rfl (by kernel_rfl) (by kernel_rfl) (by kernel_rfl) (fun _ _ _ h => h) (Or.inl ⟨rfl, ?c209⟩) hH ?r209
        case c209 => (intro w' _; go_simp; (try with_reducible rfl))
        try simp only [Act.put, List.setIfInBounds_toArray, List.set_cons_zero, List.set_cons_succ]
        refine wpAnyH_take (i := 10) (oi := ⟨some 100, _, _, _, _, _⟩) (v := ?v210) rfl (by kernel_rfl) (by kernel_rfl) (by kernel_rfl) (fun _ _ _ h => h) (Or.inl ⟨rfl, ?c210⟩) hH ?r210
        case c210 => (intro w' hS; obtain ⟨_, hS⟩ := hS.out; obtain ⟨x0, x1, x2, x3, x4, x5, x6, x7, x8⟩ := HNF.out _ _ hS; go_simp; (try with_reducible rfl))
        try simp only [Act.put, List.setIfInBounds_toArray, List.set_cons_zero, List.set_cons_succ]
        refine wpAnyH_ready (rs := [5]) (by kernel_rfl) (by simp) (AllReadyH.cons rfl (fun K hK => ?_) (AllReadyH.nil))
        go_simp
        obtain ⟨Oc, hc⟩ := hH.out
        go_at_call 15
        refine (put_no hc x.th x.k HXO.out.k 9 true _ rfl (HFR.out.held _ _)).mono ?_
        rintro e w6 ⟨Om6, rfl, h⟩
        refine hK.out _ _ (Lib.hid ⟨_, h⟩) (fun hH => ?_)
        clear hK K
        clear h hc
        try simp only [Act.put, List.setIfInBounds_toArray, List.set_cons_zero, List.set_cons_succ]
        refine wpAnyH_ready (rs := [11]) (by kernel_rfl) (by simp) (AllReadyH.cons rfl (fun K hK => ?_) (AllReadyH.nil))
        go_simp
        obtain ⟨Oc, hc⟩ := hH.out
        go_at_call 17
        refine (remove_no hc x.th x.k HXO.out.k _ rfl (HFR.out.held _ _)).mono ?_
        rintro e w6 ⟨Om6, rfl, h⟩
        refine hK.out _ _ (Lib.hid ⟨_, h⟩) (fun hH => ?_)
        clear hK K
        clear h hc
        try simp only [Act.put, List.setIfInBounds_toArray, List.set_cons_zero, List.set_cons_succ]
        refine wpAnyH_take (i := 12) (oi := ⟨some 20, _, _, _, _, _⟩) (v := ?v211) rfl (by kernel_rfl) (by kernel_rfl) (by kernel_rfl) (fun _ _ _ h => h) (Or.inl ⟨rfl, ?c211⟩) hH ?r211
        case c211 => (intro w' _; go_simp; (try with_reducible rfl))
        try simp only [Act.put, List.setIfInBounds_toArray, List.set_cons_zero, List.set_cons_succ]
        refine wpAnyH_take (i := 13) (oi := ⟨some 21, _, _, _, _, _⟩) (v := ?v212) rfl (by kernel_rfl) (by kernel_rfl) (by kernel_rfl) (fun _ _ _ h => h) (Or.inl ⟨rfl, ?c212⟩) hH ?r212
        case c212 => (intro w' _; go_simp; (try with_reducible rfl))
        try simp only [Act.put, List.setIfInBounds_toArray, List.set_cons_zero, List.set_cons_succ]
        refine wpAnyH_done (by kernel_rfl) ?_ _
        obtain ⟨O6, h6⟩ := hH.out
        have H6 := Lib.hid h6
        clear h6 hH
        go_wp2_with fail
        go_at_call 10
        refine (awake_any _).mono ?_
        rintro e w7 ⟨rfl, hb⟩
        have H7 := Lib.hid (H6.out.next hb)
        clear hb H6
        go_wp2_with fail
        go_at_call 24
        refine (all_any H7.out HF0.out).mono ?_
        rintro e w8 ⟨p8, c8, rfl, hk, hb⟩
        have H8 := Lib.hid (H7.out.next hb)
        have HK8 := Lib.hid hk
        clear hk hb H7
        rw [HFN.out]
        go_wp2_with fail
        go_at_call 21
        refine (R.same_any (fs.map (·.k)) fn HKN.out HFL.out _ _ _ _ _ _ _ HK8.out (HKF.out _ _ H8.out)).mono ?_
        rintro e w9 ⟨rfl, hb⟩
        have H9 := Lib.hid (H8.out.next hb)
        clear hb H8 HK8
        go_wp2_with fail
        go_at_call 27
        refine (Me.log_any H9.out.mem HLL.out).mono ?_
        rintro e w10 ⟨v2, rfl, hv2, -, hb⟩
        obtain ⟨A4, c4, rfl, -, -⟩ := hv2.len
        have HE := Lib.hid (HBF.out _ _ (H9.out.next hb))
        clear hb hv2 H9
        go_wp2_with fail
        go_ret
        exact ⟨rfl, HE.out⟩
    · have HFR := Lib.hid HI.out.1
      have HF0 : Hid (fs.length ≤ 100000) := by show _ ≤ _; have := HI.out.2; omega
      have HLL : Hid (ms.ls.length ≤ 1000000000000) := by show _ ≤ _; have := HI.out.1.2; omega
      clear HD HL HO
      go_wp2_with fail
      go_at_call 24
      refine (all_any HM.out HF0.out).mono ?_
      rintro e w2 ⟨p0, c0, rfl, hk, hb⟩
      have H2 := Lib.hid (HM.out.newer hb)
      obtain ⟨fr, hfr⟩ : ∃ v, (fw W1).with (fun j => wr.heap.size ≤ j ∧ j < w2.heap.size) w2 = v := ⟨_, rfl⟩
      have HNF : Hid (∀ Om w', TM fr Om Ot mb B ms N fs w' → Nine w' W.heap.size 0 x) := fun Om w' h => by
        rw [← hfr] at h
        exact HNX.out _ _ _ _ (h.without fun j hj => hj.2).1
      have HBF : Hid (∀ Om w', TM fr Om Ot mb B ms N fs w' → Below W.heap.size W w') := fun Om w' h => by
        rw [← hfr] at h
        exact HDW.out _ _ _ _ (h.without fun j hj => hj.2).1
      have HKF : Hid (∀ Om w', TM fr Om Ot mb B ms N fs w' → Kys w' wr.heap.size p0 (fs.map (·.k))) := fun Om w' h => by
        rw [← hfr] at h
        exact Kys.same hk (h.without fun j hj => hj.2).2.1
      rw [hfr] at H2
      clear hfr hk hb HM HNX HDW
      obtain ⟨fn, hfn⟩ : ∃ v, fs.length = v := ⟨_, rfl⟩
      have HFN := Lib.hid hfn
      have HKN : Hid ((fs.map (·.k)).length = fn) := by show _ = _; rw [List.length_map, hfn]
      have HFL : Hid (fn ≤ 100000) := by show _ ≤ _; rw [← hfn]; exact HF0.out
      rw [hfn]
      clear hfn
      go_wp2_with fail
      go_at_call 27
      refine (Me.log_any H2.out.mem HLL.out).mono ?_
      rintro e w3 ⟨v1, rfl, hv1, -, hb⟩
      obtain ⟨A3, c3, rfl, -, -⟩ := hv1.len
      have H3 := Lib.hid (H2.out.next hb)
      clear hb hv1 H2
      obtain ⟨x0, x1, x2, x3, x4, x5, x6, x7, x8⟩ := HNF.out _ _ H3.out
      go_wp2_with fail
      clear x0 x1 x2 x3 x4 x5 x6 x7 x8
      go_at_call 22
      refine (find_no H3.out x.th x.k HXO.out.k _ rfl (HFR.out.held _ _)).mono ?_
      rintro e w4 ⟨Om4, rfl, h⟩
      have H4 := Lib.hid h
      clear h H3
      obtain ⟨ve, hve, hk⟩ := HFR.out.keys N x.th x.at_ HXO.out.at_
      have HKE := Lib.hid (hk _ _ _ _ _ _ _ H4.out)
      clear hk
      obtain ⟨x0, x1, x2, x3, x4, x5, x6, x7, x8⟩ := HNF.out _ _ H4.out
      go_wp2_with fail
      clear x0 x1 x2 x3 x4 x5 x6 x7 x8
      go_at_call 19
      refine HKE.out.mono ?_
      rintro e w5 ⟨rfl, rfl⟩
      have H5 := H4
      clear H4 HKE
      go_wp2_with fail
      refine wp_region_held_drew (S := fun w' => Hid (∃ Om, TM fr Om Ot mb B ms N fs w')) (by kernel_rfl) (Lib.hid ⟨_, H5.out.next (Below.refl _ _).drew⟩) (fun hH => ?_)
      refine wpAnyH_take (i := 0) (oi := ⟨some 90, _, _, _, _, _⟩) (v := ?v401) rfl (by kernel_rfl) (by kernel_rfl) (by kernel_rfl) (fun _ _ _ h => h) (Or.inl ⟨rfl, ?c401⟩) hH ?r401
      case c401 => (intro w' _; go_simp; (try with_reducible rfl))
      try simp only [Act.put, List.setIfInBounds_toArray, List.set_cons_zero, List.set_cons_succ]
      refine wpAnyH_take (i := 1) (oi := ⟨some 91, _, _, _, _, _⟩) (v := ?v402) rfl (by kernel_rfl) (by kernel_rfl) (by kernel_rfl) (fun _ _ _ h => h) (Or.inl ⟨rfl, ?c402⟩) hH ?r402
      case c402 => (intro w' _; go_simp; (try with_reducible rfl))
      try simp only [Act.put, List.setIfInBounds_toArray, List.set_cons_zero, List.set_cons_succ]
      refine wpAnyH_take (i := 2) (oi := ⟨some 92, _, _, _, _, _⟩) (v := ?v403) rfl (by kernel_rfl) (by kernel_rfl) (by kernel_rfl) (fun _ _ _ h => h) (Or.inl ⟨rfl, ?c403⟩) hH ?r403
      case c403 => (intro w' hS; obtain ⟨_, hS⟩ := hS.out; obtain ⟨x0, x1, x2, x3, x4, x5, x6, x7, x8⟩ := HNF.out _ _ hS; go_simp; (try with_reducible rfl))
      try simp only [Act.put, List.setIfInBounds_toArray, List.set_cons_zero, List.set_cons_succ]
      refine wpAnyH_take (i := 3) (oi := ⟨some 93, _, _, _, _, _⟩) (v := ?v404) rfl (by kernel_rfl) (by kernel_rfl) (by kernel_rfl) (fun _ _ _ h => h) (Or.inl ⟨rfl, ?c404⟩) hH ?r404
      case c404 => (intro w' _; go_simp; (try with_reducible rfl))
      try simp only [Act.put, List.setIfInBounds_toArray, List.set_cons_zero, List.set_cons_succ]
      refine wpAnyH_take (i := 4) (oi := ⟨some 94, _, _, _, _, _⟩) (v := ?v405) rfl (by kernel_rfl) (by kernel_rfl) (by kernel_rfl) (fun _ _ _ h => h) (Or.inl ⟨rfl, ?c405⟩) hH ?r405
      case c405 => (intro w' hS; obtain ⟨_, hS⟩ := hS.out; obtain ⟨x0, x1, x2, x3, x4, x5, x6, x7, x8⟩ := HNF.out _ _ hS; go_simp; (try with_reducible rfl))
      try simp only [Act.put, List.setIfInBounds_toArray, List.set_cons_zero, List.set_cons_succ]
      refine wpAnyH_take (i := 6) (oi := ⟨some 96, _, _, _, _, _⟩) (v := ?v406) rfl (by kernel_rfl) (by kernel_rfl) (by kernel_rfl) (fun _ _ _ h => h) (Or.inl ⟨rfl, ?c406⟩) hH ?r406
      case c406 => (intro w' _; go_simp; (try with_reducible rfl))
      try simp only [Act.put, List.setIfInBounds_toArray, List.set_cons_zero, List.set_cons_succ]
      refine wpAnyH_take (i := 7) (oi := ⟨some 97, _, _, _, _, _⟩) (v := ?v407) rfl (by kernel_rfl) (by kernel_rfl) (by kernel_rfl) (fun _ _ _ h => h) (Or.inl ⟨rfl, ?c407⟩) hH ?r407
      case c407 => (intro w' _; go_simp; (try with_reducible rfl))
      try simp only [Act.put, List.setIfInBounds_toArray, List.set_cons_zero, List.set_cons_succ]
      refine wpAnyH_take (i := 8) (oi := ⟨some 98, _, _, _, _, _⟩) (v := ?v408) rfl (by kernel_rfl) (by kernel_rfl) (by kernel_rfl) (fun _ _ _ h => h) (Or.inl ⟨rfl, ?c408⟩) hH ?r408
      case c408 => (intro w' hS; obtain ⟨_, hS⟩ := hS.out; obtain ⟨x0, x1, x2, x3, x4, x5, x6, x7, x8⟩ := HNF.out _ _ hS; go_simp; (try with_reducible rfl))
      try simp only [Act.put, List.setIfInBounds_toArray, List.set_cons_zero, List.set_cons_succ]
      refine wpAnyH_take (i := 9) (oi := ⟨some 99, _, _, _, _, _⟩) (v := ?v409) rfl (by kernel_rfl) (by kernel_rfl) (by kernel_rfl) (fun _ _ _ h => h) (Or.inl ⟨rfl, ?c409⟩) hH ?r409
      case c409 => (intro w' _; go_simp; (try with_reducible rfl))
      try simp only [Act.put, List.setIfInBounds_toArray, List.set_cons_zero, List.set_cons_succ]
      refine wpAnyH_take (i := 10) (oi := ⟨some 100, _, _, _, _, _⟩) (v := ?v410) rfl (by kernel_rfl) (by kernel_rfl) (by kernel_rfl) (fun _ _ _ h => h) (Or.inl ⟨rfl, ?c410⟩) hH ?r410
      case c410 => (intro w' hS; obtain ⟨_, hS⟩ := hS.out; obtain ⟨x0, x1, x2, x3, x4, x5, x6, x7, x8⟩ := HNF.out _ _ hS; go_simp; (try with_reducible rfl))
      try simp only [Act.put, List.setIfInBounds_toArray, List.set_cons_zero, List.set_cons_succ]
      refine wpAnyH_ready (rs := [5]) (by kernel_rfl) (by simp) (AllReadyH.cons rfl (fun K hK => ?_) (AllReadyH.nil))
      go_simp
      obtain ⟨Oc, hc⟩ := hH.out
      go_at_call 15
      refine (put_no hc x.th x.k HXO.out.k 9 true _ rfl (HFR.out.held _ _)).mono ?_
      rintro e w6 ⟨Om6, rfl, h⟩
      refine hK.out _ _ (Lib.hid ⟨_, h⟩) (fun hH => ?_)
      clear hK K
      clear h hc
      try simp only [Act.put, List.setIfInBounds_toArray, List.set_cons_zero, List.set_cons_succ]
      refine wpAnyH_ready (rs := [11]) (by kernel_rfl) (by simp) (AllReadyH.cons rfl (fun K hK => ?_) (AllReadyH.nil))
      go_simp
      obtain ⟨Oc, hc⟩ := hH.out
      go_at_call 17
      refine (remove_no hc x.th x.k HXO.out.k _ rfl (HFR.out.held _ _)).mono ?_
      rintro e w6 ⟨Om6, rfl, h⟩
      refine hK.out _ _ (Lib.hid ⟨_, h⟩) (fun hH => ?_)
      clear hK K
      clear h hc
      try simp only [Act.put, List.setIfInBounds_toArray, List.set_cons_zero, List.set_cons_succ]
      refine wpAnyH_take (i := 12) (oi := ⟨some 20, _, _, _, _, _⟩) (v := ?v411) rfl (by kernel_rfl) (by kernel_rfl) (by kernel_rfl) (fun _ _ _ h => h) (Or.inl ⟨rfl, ?c411⟩) hH ?r411
      case c411 => (intro w' _; go_simp; (try with_reducible rfl))
      try simp only [Act.put, List.setIfInBounds_toArray, List.set_cons_zero, List.set_cons_succ]
      refine wpAnyH_take (i := 13) (oi := ⟨some 21, _, _, _, _, _⟩) (v := ?v412) rfl (by kernel_rfl) (by kernel_rfl) (by kernel_rfl) (fun _ _ _ h => h) (Or.inl ⟨rfl, ?c412⟩) hH ?r412
      case c412 => (intro w' _; go_simp; (try with_reducible rfl))
      try simp only [Act.put, List.setIfInBounds_toArray, List.set_cons_zero, List.set_cons_succ]
      refine wpAnyH_done (by kernel_rfl) ?_ _
      obtain ⟨O6, h6⟩ := hH.out
      have H6 := Lib.hid h6
      clear h6 hH
      go_wp2_with fail
      go_at_call 10
      refine (awake_any _).mono ?_
      rintro e w7 ⟨rfl, hb⟩
      have H7 := Lib.hid (H6.out.next hb)
      clear hb H6
      go_wp2_with fail
      go_at_call 24
      refine (all_any H7.out HF0.out).mono ?_
      rintro e w8 ⟨p8, c8, rfl, hk, hb⟩
      have H8 := Lib.hid (H7.out.next hb)
      have HK8 := Lib.hid hk
      clear hk hb H7
      rw [HFN.out]
      go_wp2_with fail
      go_at_call 21
      refine (R.same_any (fs.map (·.k)) fn HKN.out HFL.out _ _ _ _ _ _ _ HK8.out (HKF.out _ _ H8.out)).mono ?_
      rintro e w9 ⟨rfl, hb⟩
      have H9 := Lib.hid (H8.out.next hb)
      clear hb H8 HK8
      go_wp2_with fail
      go_at_call 27
      refine (Me.log_any H9.out.mem HLL.out).mono ?_
      rintro e w10 ⟨v2, rfl, hv2, -, hb⟩
      obtain ⟨A4, c4, rfl, -, -⟩ := hv2.len
      have HE := Lib.hid (HBF.out _ _ (H9.out.next hb))
      clear hb hv2 H9
      go_wp2_with fail
      go_ret
      exact ⟨rfl, HE.out⟩
end Tb
end Go.Proofs.Ytgcnhbjoalemlaa
/- Layer 20: the walk of TableApart. (Written by wip/tools/mkTabY.py.) -/
set_option linter.unusedVariables false
set_option linter.unusedSimpArgs false
set_option maxRecDepth 100000
namespace Go.Proofs.Ytgcnhbjoalemlaa
open Go.ChangeShapes Go.WideShapes Go.ChangeAt Go.RowKit Go.Mtl Go.Lib
namespace Tb
open TabM
open KeyM (isPow hashN strN)
open MemM (Ms holdV touchS newS lockS lockB unlockS unlockV say has at_)
open Me (ptr)
/-- Thread 1 holds the first s of sixteen mutexes, nobody the others. -/
structure Lk (ms : Ms) (s a : Nat) : Prop where
  sz : ms.hs.length = 16
  on : ∀ j, j < s → ms.hs.getD j 0 = 1
  off : ∀ j, s ≤ j → j < 16 → ms.hs.getD j 0 = -1
  ls : ms.ls.length ≤ a
theorem lk_new : Lk (newS 0 16) 0 0 := ⟨by decide, fun j h => absurd h (Nat.not_lt_zero j), fun j _ h => by
  have : (newS 0 16).hs = List.replicate 16 (-1) := by decide
  rw [this]
  exact rep_at j h, Nat.le_refl _⟩
theorem Lk.lock {ms : Ms} {s a : Nat} (h : Lk ms s a) (hs : s < 16) : Lk (lockS ms 1 (s : Int)) (s + 1) (a + 1) := by
  have hb : lockB ms 1 (s : Int) = true := by
    unfold lockB has
    rw [MemM.at_nat, h.off s (Nat.le_refl _) hs, h.sz]
    simp
    omega
  have e : (lockS ms 1 (s : Int)).hs = ms.hs.set s 1 := by unfold lockS; rw [if_pos hb]; rfl
  have e2 : (lockS ms 1 (s : Int)).ls.length ≤ a + 1 := by
    unfold lockS
    rw [if_pos hb]
    show (ms.ls ++ _).length ≤ _
    have := h.ls
    simp
    omega
  refine ⟨by rw [e, List.length_set]; exact h.sz, fun j hj => ?_, fun j h1 h2 => ?_, e2⟩
  · rw [e, List.getD_eq_getElem?_getD, List.getElem?_set]
    by_cases hjs : s = j
    · rw [if_pos hjs, if_pos (by rw [h.sz]; omega)]; rfl
    · rw [if_neg hjs, ← List.getD_eq_getElem?_getD]; exact h.on j (by omega)
  · rw [e, List.getD_eq_getElem?_getD, List.getElem?_set, if_neg (by omega), ← List.getD_eq_getElem?_getD]
    exact h.off j (by omega) h2
theorem Lk.touch {ms : Ms} {s a : Nat} (h : Lk ms s a) (k i : Int) : Lk (touchS ms 1 k i) s (a + 1) := by
  unfold touchS
  split
  · exact ⟨h.sz, h.on, h.off, by show (ms.ls ++ _).length ≤ _; have := h.ls; simp; omega⟩
  · exact ⟨h.sz, h.on, h.off, Nat.le_succ_of_le h.ls⟩
theorem Lk.held {ms : Ms} {s a : Nat} (h : Lk ms s a) {j : Nat} (hj : j < s) (hs : s ≤ 16) : heldB ms 1 (j : Int) = true := by
  unfold heldB holdV has
  rw [h.sz, MemM.at_nat, h.on j hj]
  simp
  omega
theorem find_upd {fs : List Fl} (h : Oks fs) {g : Fl} (hg : g.Ok) : find g.k (upd g fs) = some g := by
  cases hf : find g.k fs with
  | none => rw [upd_none hf]; exact h.find_ins hg hf
  | some f => rw [upd_some hf]; exact h.find_put hg hf
/-- A flow put, as the law looks at it: found before exactly where the number of flows stays. -/
theorem had_of {fs : List Fl} (g : Fl) : ∃ (b : Bool) (x : Int) (d : Bool), ((∃ f, find g.k fs = some f ∧ x = f.x ∧ d = f.dn ∧ b = true) ∨ (find g.k fs = none ∧ x = 0 ∧ d = false ∧ b = false)) ∧ ((((upd g fs).length : Int) == (fs.length : Int)) = b) := by
  cases hf : find g.k fs with
  | none => exact ⟨false, 0, false, .inr ⟨rfl, rfl, rfl, rfl⟩, by rw [upd_none hf, len_ins]; simp; omega⟩
  | some f => exact ⟨true, f.x, f.dn, .inl ⟨f, rfl, rfl, rfl, rfl⟩, by rw [upd_some hf, len_put]; simp⟩
set_option maxHeartbeats 4000000 in
theorem tableApart_walk (q : Int) (A : Option Addr) (len cap : Nat) (xs : List Dt) (x : Dt) (W : World) (hq : 0 ≤ q ∧ q ≤ 255) (hx : xs.length = len ∧ Dts W W.heap.size (.slice A len cap) xs ∧ ∀ y ∈ xs, y.Ok) (hxo : x.Ok) :
    Calls Try.prog 5 #[.int .u8 q, .slice A len cap, .agg (dtC x)] W fun e w' => e = .returned (.bool true) ∧ Below W.heap.size W w' := by
  obtain ⟨hl, hd, ho⟩ := hx
  obtain ⟨q0, q1⟩ := hq
  obtain ⟨m, rfl⟩ : ∃ m : Nat, q = (m : Int) := ⟨q.toNat, by omega⟩
  obtain ⟨N, hN⟩ : ∃ N : Nat, 2 ^ (m % 5) = N := ⟨_, rfl⟩
  obtain ⟨hw, hP, hN1, hN2⟩ := pow_wrap5 m N hN
  have HX := Lib.hid (nine_box W x)
  have HB1 := Lib.hid (below_box W (.cells (dtC x) 39))
  have HG : Hid (W.heap.size < (W.alloc (.cells (dtC x) 39)).heap.size) := by show _ < _; rw [World.size_alloc]; omega
  have HD : Hid (∀ W', Below W.heap.size W W' → Dts W' W.heap.size (.slice A len cap) xs) := fun W' h => hd.below h
  have HL := Lib.hid hl
  have HO := Lib.hid ho
  have HXO := Lib.hid hxo
  obtain ⟨hcl, hcc⟩ : len ≤ cap ∧ cap ≤ 9223372036854775807 := by obtain ⟨A', c', e, h1, h2, _⟩ := hd; injection e with _ e2 e3; subst e3; exact ⟨by omega, h2⟩
  clear hd hl ho hxo
  go_enter Try.func5, Try.ntmps5
  go_wp2_with fail
  go_at_call 6
  obtain ⟨W1, hW1⟩ : ∃ v, W.alloc (.cells (dtC x) 39) = v := ⟨_, rfl⟩
  rw [hW1] at HX HB1 HG ⊢
  clear hW1
  refine (Me.new_any 0 16 _).mono ?_
  rintro e w0 ⟨Om, mb, rfl, hm, hb, hO⟩
  have HM0 := Lib.hid hm
  have HB0 := Lib.hid hb
  have HO0 := Lib.hid hO
  clear hm hb hO
  go_wp2_with fail
  go_at_call 8
  refine (new_ok w0 mb N hP).mono ?_
  rintro e w1 ⟨Ot, B, rfl, ht, hb, hO⟩
  have H1 : Hid (TM (fw W1) Om Ot mb B (newS 0 16) N [] w1) := TM.make HM0.out HB0.out HO0.out ht hb hO
  clear ht hb hO HM0 HB0 HO0 hw hN
  have HNX : Hid (∀ Om ms fs w', TM (fw W1) Om Ot mb B ms N fs w' → Nine w' W.heap.size 0 x) := fun Om ms fs w' h => HX.out.below HG.out h.bel
  have HDW : Hid (∀ Om ms fs w', TM (fw W1) Om Ot mb B ms N fs w' → Below W.heap.size W w') := fun Om ms fs w' h => HB1.out.trans (h.bel.mono HB1.out.size)
  clear HX
  go_wp2_with fail
  go_loopw [10] (fun vi wr => ∃ (i : Nat) (Om : Nat → Prop) (ms : Ms), vi = .int .i64 (i : Int) ∧ i ≤ N ∧ Hid (TM (fw W1) Om Ot mb B ms N [] wr) ∧ Hid (Lk ms i i)) (fun vi _ => N - (RowKit.intOf vi).toNat)
  case atStart => exact ⟨0, Om, _, rfl, by omega, H1, lk_new⟩
  case round =>
    obtain ⟨i, Omi, ms, rfl, hi1, HM, HI⟩ := hrel
    clear H1
    by_cases h1 : i < N
    · have HI2 := Lib.hid (HI.out.lock (s := i) (by omega))
      go_wp2_with fail
      go_at_call 11
      refine (Me.lock_any HM.out.mem 1 (i : Int) (by omega) (by have := HI.out.ls; omega)).mono ?_
      intro e w3 hd
      obtain ⟨Om2, rfl, h⟩ := HM.out.does hd
      have H3 := Lib.hid h
      clear hd h HM HI
      go_wp2_with fail
      go_roundw
      case rel => exact ⟨i + 1, Om2, _, by go_num, by omega, H3, HI2⟩
      case measure => simp [RowKit.intOf]; omega
    · obtain rfl : i = N := by omega
      have HIA : Hid (Lk ms i 16) := ⟨HI.out.sz, HI.out.on, HI.out.off, by have := HI.out.ls; omega⟩
      clear HI h1
      go_wp2_with fail
      go_loopw [11] (fun vi wr => ∃ (j : Nat) (Om : Nat → Prop) (ms : Ms) (fs : List Fl), vi = .int .i64 (j : Int) ∧ j ≤ len ∧ j ≤ 40 ∧ Hid (TM (fw W1) Om Ot mb B ms i fs wr) ∧ Hid (Lk ms i (16 + j) ∧ fs.length ≤ j)) (fun vi _ => 40 - (RowKit.intOf vi).toNat)
      case atStart => exact ⟨0, _, _, [], rfl, by omega, by omega, HM, ⟨HIA.out, Nat.le_refl _⟩⟩
      case round =>
        clear HM HIA
        obtain ⟨j, Omj, ms, fs, rfl, hj1, hj2, HM, HI⟩ := hrel
        by_cases h1 : j < len
        · by_cases h2 : j < 40
          · obtain ⟨y, hy⟩ : ∃ y, xs[j]? = some y := ⟨_, List.getElem?_eq_getElem (by rw [HL.out]; exact h1)⟩
            obtain ⟨b, off, c, ev, -, -, hbW, -⟩ := (HD.out _ (HDW.out _ _ _ _ HM.out)).at_ HL.out hy
            injection ev with ev _ ec
            subst ev ec
            have HNY : Hid (∀ Om ms fs w', TM (fw W1) Om Ot mb B ms i fs w' → Nine w' b (off + j * 9) y) := fun Om ms fs w' h => by
              obtain ⟨b', off', c', ev, -, -, -, hr⟩ := (HD.out _ (HDW.out _ _ _ _ h)).at_ HL.out hy
              injection ev with ev _ ec
              injection ev with ev
              injection ev with e1 e2 _
              subst e1 e2
              exact nine_of hr
            have HYO : Hid y.Ok := HO.out y (List.mem_of_getElem? hy)
            have HH : Hid (heldB ms 1 ((sOf i y.k : Nat) : Int) = true) := HI.out.1.held (sOf_lt (by omega) y.k) hN2
            have HLL : Hid (ms.ls.length ≤ 1000000000000) := by show _ ≤ _; have := HI.out.1.ls; omega
            have HM' := Lib.hid (HM.out.next (Below.refl _ _).drew)
            clear hy hbW
            go_wp2_with fail
            refine wp_region_held_drew (S := fun w' => Hid (∃ Om ms fs, TM (fw W1) Om Ot mb B ms i fs w')) (by kernel_rfl) (Lib.hid ⟨_, _, _, HM'.out⟩) (fun hH => ?_)
            refine wpAnyH_take (i := 0) (oi := ⟨some 54, _, _, _, _, _⟩) (v := ?v101) rfl (by kernel_rfl) (by kernel_rfl) (by kernel_rfl) (fun _ _ _ h => h) (Or.inl ⟨rfl, ?c101⟩) hH ?r101
            case c101 => (intro w' _; go_simp; (try with_reducible rfl))
            try simp only [Act.put, List.setIfInBounds_toArray, List.set_cons_zero, List.set_cons_succ]
            refine wpAnyH_take (i := 1) (oi := ⟨some 55, _, _, _, _, _⟩) (v := ?v102) rfl (by kernel_rfl) (by kernel_rfl) (by kernel_rfl) (fun _ _ _ h => h) (Or.inl ⟨rfl, ?c102⟩) hH ?r102
            case c102 => (intro w' _; go_simp; (try with_reducible rfl))
            try simp only [Act.put, List.setIfInBounds_toArray, List.set_cons_zero, List.set_cons_succ]
            refine wpAnyH_take (i := 2) (oi := ⟨some 56, _, _, _, _, _⟩) (v := ?v103) rfl (by kernel_rfl) (by kernel_rfl) (by kernel_rfl) (fun _ _ _ h => h) (Or.inl ⟨rfl, ?c103⟩) hH ?r103
            case c103 => (intro w' _; go_simp; (try with_reducible rfl))
            try simp only [Act.put, List.setIfInBounds_toArray, List.set_cons_zero, List.set_cons_succ]
            refine wpAnyH_take (i := 3) (oi := ⟨some 57, _, _, _, _, _⟩) (v := ?v104) rfl (by kernel_rfl) (by kernel_rfl) (by kernel_rfl) (fun _ _ _ h => h) (Or.inl ⟨rfl, ?c104⟩) hH ?r104
            case c104 => (intro w' _; go_simp; (try with_reducible rfl))
            try simp only [Act.put, List.setIfInBounds_toArray, List.set_cons_zero, List.set_cons_succ]
            refine wpAnyH_take (i := 4) (oi := ⟨some 58, _, _, _, _, _⟩) (v := ?v105) rfl (by kernel_rfl) (by kernel_rfl) (by kernel_rfl) (fun _ _ _ h => h) (Or.inl ⟨rfl, ?c105⟩) hH ?r105
            case c105 => (intro w' _; go_simp; (try with_reducible rfl))
            try simp only [Act.put, List.setIfInBounds_toArray, List.set_cons_zero, List.set_cons_succ]
            refine wpAnyH_take (i := 5) (oi := ⟨some 59, _, _, _, _, _⟩) (v := ?v106) rfl (by kernel_rfl) (by kernel_rfl) (by kernel_rfl) (fun _ _ _ h => h) (Or.inl ⟨rfl, ?c106⟩) hH ?r106
            case c106 => (intro w' hS; obtain ⟨_, _, _, hS⟩ := hS.out; obtain ⟨x0, x1, x2, x3, x4, x5, x6, x7, x8⟩ := HNY.out _ _ _ _ hS; go_simp; (try with_reducible rfl))
            try simp only [Act.put, List.setIfInBounds_toArray, List.set_cons_zero, List.set_cons_succ]
            refine wpAnyH_take (i := 6) (oi := ⟨some 60, _, _, _, _, _⟩) (v := ?v107) rfl (by kernel_rfl) (by kernel_rfl) (by kernel_rfl) (fun _ _ _ h => h) (Or.inl ⟨rfl, ?c107⟩) hH ?r107
            case c107 => (intro w' _; go_simp; (try with_reducible rfl))
            try simp only [Act.put, List.setIfInBounds_toArray, List.set_cons_zero, List.set_cons_succ]
            refine wpAnyH_take (i := 7) (oi := ⟨some 61, _, _, _, _, _⟩) (v := ?v108) rfl (by kernel_rfl) (by kernel_rfl) (by kernel_rfl) (fun _ _ _ h => h) (Or.inl ⟨rfl, ?c108⟩) hH ?r108
            case c108 => (intro w' _; go_simp; (try with_reducible rfl))
            try simp only [Act.put, List.setIfInBounds_toArray, List.set_cons_zero, List.set_cons_succ]
            refine wpAnyH_take (i := 8) (oi := ⟨some 62, _, _, _, _, _⟩) (v := ?v109) rfl (by kernel_rfl) (by kernel_rfl) (by kernel_rfl) (fun _ _ _ h => h) (Or.inl ⟨rfl, ?c109⟩) hH ?r109
            case c109 => (intro w' _; go_simp; (try with_reducible rfl))
            try simp only [Act.put, List.setIfInBounds_toArray, List.set_cons_zero, List.set_cons_succ]
            refine wpAnyH_take (i := 9) (oi := ⟨some 63, _, _, _, _, _⟩) (v := ?v110) rfl (by kernel_rfl) (by kernel_rfl) (by kernel_rfl) (fun _ _ _ h => h) (Or.inl ⟨rfl, ?c110⟩) hH ?r110
            case c110 => (intro w' _; go_simp; (try with_reducible rfl))
            try simp only [Act.put, List.setIfInBounds_toArray, List.set_cons_zero, List.set_cons_succ]
            refine wpAnyH_take (i := 10) (oi := ⟨some 64, _, _, _, _, _⟩) (v := ?v111) rfl (by kernel_rfl) (by kernel_rfl) (by kernel_rfl) (fun _ _ _ h => h) (Or.inl ⟨rfl, ?c111⟩) hH ?r111
            case c111 => (intro w' _; go_simp; (try with_reducible rfl))
            try simp only [Act.put, List.setIfInBounds_toArray, List.set_cons_zero, List.set_cons_succ]
            refine wpAnyH_take (i := 11) (oi := ⟨some 65, _, _, _, _, _⟩) (v := ?v112) rfl (by kernel_rfl) (by kernel_rfl) (by kernel_rfl) (fun _ _ _ h => h) (Or.inl ⟨rfl, ?c112⟩) hH ?r112
            case c112 => (intro w' hS; obtain ⟨_, _, _, hS⟩ := hS.out; obtain ⟨x0, x1, x2, x3, x4, x5, x6, x7, x8⟩ := HNY.out _ _ _ _ hS; go_simp; (try with_reducible rfl))
            try simp only [Act.put, List.setIfInBounds_toArray, List.set_cons_zero, List.set_cons_succ]
            refine wpAnyH_ready (rs := [12]) (by kernel_rfl) (by simp) (AllReadyH.cons rfl (fun K hK => ?_) (AllReadyH.nil))
            go_simp
            go_at_call 15
            refine (put_yes HM'.out HLL.out 1 y.k HYO.out.k (j : Int) y.tn _ rfl HH.out ⟨by omega, by omega⟩).mono ?_
            rintro e w4 ⟨Om4, rfl, h⟩
            refine hK.out _ _ (Lib.hid ⟨_, _, _, h⟩) (fun hH => ?_)
            clear hK K
            have H4 := Lib.hid h
            clear h
            try simp only [Act.put, List.setIfInBounds_toArray, List.set_cons_zero, List.set_cons_succ]
            refine wpAnyH_take (i := 13) (oi := ⟨some 67, _, _, _, _, _⟩) (v := ?v113) rfl (by kernel_rfl) (by kernel_rfl) (by kernel_rfl) (fun _ _ _ h => h) (Or.inl ⟨rfl, ?c113⟩) hH ?r113
            case c113 => (intro w' _; go_simp; (try with_reducible rfl))
            try simp only [Act.put, List.setIfInBounds_toArray, List.set_cons_zero, List.set_cons_succ]
            refine wpAnyH_done (by kernel_rfl) ?_ _
            have HI4 := Lib.hid (HI.out.1.touch 6 ((sOf i y.k : Nat) : Int))
            have HF4 : Hid ((upd ⟨y.k, (j : Int), y.tn⟩ fs).length ≤ j + 1) := Nat.le_trans (len_upd _ _) (Nat.succ_le_succ HI.out.2)
            clear hH HM HM'
            go_wp2_with fail
            go_roundw
            case rel => exact ⟨j + 1, _, _, _, by go_num, by omega, by omega, H4, ⟨HI4.out, HF4.out⟩⟩
            case measure => simp [RowKit.intOf]; omega
          · have HI0 : Hid (Lk ms i 56) := ⟨HI.out.1.sz, HI.out.1.on, HI.out.1.off, by have := HI.out.1.ls; omega⟩
            have HF0 : Hid (fs.length ≤ 40) := by show _ ≤ _; have := HI.out.2; omega
            clear HI HD HL HO
            have HPK : Hid ((sOf i x.k : Nat) < i) := sOf_lt (by omega) x.k
            obtain ⟨s, hs⟩ : ∃ s, sOf i x.k = s := ⟨_, rfl⟩
            rw [hs] at HPK
            have HS := Lib.hid hs
            clear hs
            go_wp2_with fail
            clear h1 hj1 hj2
            go_at_call 24
            refine (all_any HM.out (by have := HF0.out; omega)).mono ?_
            rintro e w2 ⟨p0, c0, rfl, -, hb⟩
            have H2 := Lib.hid (HM.out.next hb)
            clear hb HM
            obtain ⟨hb, vx, vd, hfo, hmw⟩ := had_of (fs := fs) ⟨x.k, 99, x.tn⟩
            have HFO := Lib.hid hfo
            have HOK := Lib.hid H2.out.okf
            have HMW := Lib.hid hmw
            have HUL : Hid ((upd ⟨x.k, 99, x.tn⟩ fs).length ≤ 41) := Nat.le_trans (len_upd _ _) (Nat.succ_le_succ HF0.out)
            have HFU : Hid (find x.k (upd ⟨x.k, 99, x.tn⟩ fs) = some ⟨x.k, 99, x.tn⟩) := find_upd HOK.out (g := ⟨x.k, 99, x.tn⟩) ⟨HXO.out.k, by show (-9223372036854775808 : Int) ≤ 99; omega, by show (99 : Int) ≤ 9223372036854775807; omega⟩
            clear hfo hmw
            obtain ⟨was, hwas⟩ : ∃ v, fs.length = v := ⟨_, rfl⟩
            rw [hwas] at HMW ⊢
            clear hwas
            obtain ⟨x0, x1, x2, x3, x4, x5, x6, x7, x8⟩ := HNX.out _ _ _ _ H2.out
            go_wp2_with fail
            clear x0 x1 x2 x3 x4 x5 x6 x7 x8
            go_at_call 22
            refine (find_yes H2.out (by have := HI0.out.ls; omega) 1 x.k HXO.out.k vx vd hb s HS.out (HI0.out.held HPK.out hN2) HFO.out).mono ?_
            rintro e w3 ⟨Om3, rfl, h⟩
            have H3 := Lib.hid h
            have HI3 := Lib.hid (HI0.out.touch 5 (s : Int))
            generalize touchS ms 1 5 (s : Int) = ms3 at H3 HI3
            clear h H2 HI0 HFO
            obtain ⟨x0, x1, x2, x3, x4, x5, x6, x7, x8⟩ := HNX.out _ _ _ _ H3.out
            go_wp2_with fail
            clear x0 x1 x2 x3 x4 x5 x6 x7 x8
            go_at_call 15
            refine (put_yes H3.out (by have := HI3.out.ls; omega) 1 x.k HXO.out.k 99 x.tn s HS.out (HI3.out.held HPK.out hN2) ⟨by omega, by omega⟩).mono ?_
            rintro e w4 ⟨Om4, rfl, h⟩
            have H4 := Lib.hid h
            have HI4 := Lib.hid (HI3.out.touch 6 (s : Int))
            generalize touchS ms3 1 6 (s : Int) = ms4 at H4 HI4
            clear h H3 HI3
            obtain ⟨f1, hf1⟩ : ∃ v, upd ⟨x.k, 99, x.tn⟩ fs = v := ⟨_, rfl⟩
            rw [hf1] at H4 HUL HFU HMW
            clear hf1 HF0 HOK
            have HOK := Lib.hid H4.out.okf
            obtain ⟨x0, x1, x2, x3, x4, x5, x6, x7, x8⟩ := HNX.out _ _ _ _ H4.out
            go_wp2_with fail
            clear x0 x1 x2 x3 x4 x5 x6 x7 x8
            go_at_call 22
            refine (find_yes H4.out (by have := HI4.out.ls; omega) 1 x.k HXO.out.k 99 x.tn true s HS.out (HI4.out.held HPK.out hN2) (.inl ⟨_, HFU.out, rfl, rfl, rfl⟩)).mono ?_
            rintro e w5 ⟨Om5, rfl, h⟩
            have H5 := Lib.hid h
            have HI5 := Lib.hid (HI4.out.touch 5 (s : Int))
            generalize touchS ms4 1 5 (s : Int) = ms5 at H5 HI5
            clear h H4 HI4
            go_wp2_with fail
            go_at_call 24
            refine (all_any H5.out (by have := HUL.out; omega)).mono ?_
            rintro e w6 ⟨p6, c6, rfl, -, hb⟩
            have H6 := Lib.hid (H5.out.next hb)
            clear hb H5
            have HFL := Lib.hid (flat_all (sOf i) i (fun k => sOf_lt (by omega) k) f1).length_eq
            have HLD := Lib.hid (HOK.out.len_drop HFU.out)
            obtain ⟨more, hmore⟩ : ∃ v, f1.length = v := ⟨_, rfl⟩
            rw [hmore] at HUL HMW HFL HLD ⊢
            have HML := Lib.hid hmore
            have hm41 : more ≤ 41 := HUL.out
            clear hmore HUL
            go_wp2_with fail
            have HI6 : Hid (Lk ms5 i 60) := ⟨HI5.out.sz, HI5.out.on, HI5.out.off, by have := HI5.out.ls; omega⟩
            clear HI5
            go_loopw [22, 23] (fun vs vr wr => ∃ (r : Nat) (Om : Nat → Prop) (ms : Ms), vr = .int .i64 (r : Int) ∧ vs = .int .i64 (((flat (fun r => part i r f1) r).length : Nat) : Int) ∧ r ≤ i ∧ Hid (TM (fw W1) Om Ot mb B ms i f1 wr) ∧ Hid (Lk ms i (60 + r))) (fun _ vr _ => i - (RowKit.intOf vr).toNat)
            case atStart => exact ⟨0, _, _, rfl, rfl, by omega, H6, HI6⟩
            case round =>
              clear H6 HI6
              obtain ⟨r, Omr, msr, rfl, rfl, hr1, HM, HI⟩ := hrel
              by_cases hr : r < i
              · have hfl := flat_len (fun r => part i r f1) hr
                rw [HFL.out] at hfl
                have HFS := Lib.hid (flat_succ (fun r => part i r f1) r)
                obtain ⟨ps, hps⟩ : ∃ v, part i r f1 = v := ⟨_, rfl⟩
                have HPS : Hid (∀ f ∈ ps, f.k.Ok ∧ sOf i f.k = r) := fun f hf => by
                  rw [← hps] at hf
                  exact ⟨(HOK.out.ok f (mem_part.1 hf).1).k, (mem_part.1 hf).2⟩
                obtain ⟨fl, hfl0⟩ : ∃ v, (flat (fun r => part i r f1) r).length = v := ⟨_, rfl⟩
                have HKY := Lib.hid (keys_yes HM.out (by have := HI.out.ls; omega) (by rw [HML.out]; omega) 1 r hr (HI.out.held hr hN2))
                rw [hps] at HKY
                have HNF : Hid ((flat (fun r => part i r f1) (r + 1)).length = fl + ps.length) := by show _ = _; rw [HFS.out, List.length_append, hfl0, ← hps]
                replace hfl : fl + ps.length ≤ more := by rw [← hps, ← hfl0]; exact hfl
                have HI2 := Lib.hid (HI.out.touch 5 (r : Int))
                rw [hfl0]
                clear HFS hps hfl0
                go_wp2_with fail
                go_at_call 19
                refine HKY.out.mono ?_
                rintro e w7 ⟨p7, c7, Om7, rfl, hk, h⟩
                have H7 := Lib.hid h
                have HK7 : Hid (Kys w7 0 p7 (ps.map (·.k))) := fun h0 => by
                  obtain ⟨g, e1, -, e3, e4⟩ := hk h0
                  exact ⟨g, e1, Nat.zero_le _, e3, e4⟩
                obtain ⟨pl, hpl⟩ : ∃ v, ps.length = v := ⟨_, rfl⟩
                have HPL := Lib.hid hpl
                rw [hpl] at hfl HNF ⊢
                clear h hk HKY HM HI hpl
                go_wp2_with fail
                go_loopw [26] (fun vu wr => ∃ u : Nat, vu = .int .i64 (u : Int) ∧ u ≤ pl ∧ Hid (TM (fw W1) Om7 Ot mb B (touchS msr 1 5 (r : Int)) i f1 wr) ∧ Hid (Kys wr 0 p7 (ps.map (·.k)))) (fun vu _ => pl - (RowKit.intOf vu).toNat)
                case atStart => exact ⟨0, rfl, by omega, H7, HK7⟩
                case round =>
                  clear H7 HK7
                  obtain ⟨u, rfl, hu, HM, HK⟩ := hrel
                  by_cases hup : u < pl
                  · obtain ⟨f, hf⟩ : ∃ f, ps[u]? = some f := ⟨_, List.getElem?_eq_getElem (by rw [HPL.out]; exact hup)⟩
                    obtain ⟨hko, hks⟩ := HPS.out f (List.mem_of_getElem? hf)
                    have HST : Hid (∀ W', Calls Try.prog 28 #[.agg (Ky.kyc f.k.a f.k.b f.k.p f.k.q f.k.r), .int .i64 (i : Int)] W' fun e w' => e = .returned (.int .i64 (r : Int)) ∧ Below W'.heap.size W' w') := fun W' =>
                      Ky.refStripe_any f.k.a f.k.b f.k.p f.k.q f.k.r (i : Int) hko.a hko.b hko.p hko.q hko.r _ rfl _ (by rw [str_is hP, hks]) W'
                    obtain ⟨g, rfl, -, -, hat⟩ := HK.out (by rw [List.length_map, HPL.out]; omega)
                    obtain ⟨y0, y1, y2, y3, y4⟩ := hat u f.k (by rw [List.getElem?_map, hf]; rfl)
                    clear hat hko hks hf
                    go_wp2_with fail
                    go_at_call 28
                    refine (HST.out _).mono ?_
                    rintro e w8 ⟨rfl, hb⟩
                    have H8 := Lib.hid (HM.out.next hb)
                    have HK8 := Lib.hid (HK.out.next hb)
                    clear hb HM HK HST y0 y1 y2 y3 y4
                    go_wp2_with fail
                    go_roundw
                    case rel => exact ⟨u + 1, by go_num, by omega, H8, HK8⟩
                    case measure => simp [RowKit.intOf]; omega
                  · obtain rfl : u = pl := by omega
                    go_wp2_with fail
                    go_roundw
                    case rel => exact ⟨r + 1, _, _, by go_num, by rw [HNF.out]; go_num, by omega, HM, HI2⟩
                    case measure => simp [RowKit.intOf]; omega
              · have hsum : (flat (fun r => part i r f1) r).length = more := by rw [show r = i by omega]; exact HFL.out
                rw [hsum]
                clear hsum HFL
                have HI7 : Hid (Lk msr i 80) := ⟨HI.out.sz, HI.out.on, HI.out.off, by have := HI.out.ls; omega⟩
                have HI8 := Lib.hid (HI7.out.touch 6 (s : Int))
                have HM' := Lib.hid (HM.out.next (Below.refl _ _).drew)
                go_wp2_with fail
                clear hr hr1 HI
                refine wp_region_held_drew (S := fun w' => Hid (∃ Om ms fs, TM (fw W1) Om Ot mb B ms i fs w')) (by kernel_rfl) (Lib.hid ⟨_, _, _, HM'.out⟩) (fun hH => ?_)
                refine wpAnyH_take (i := 0) (oi := ⟨some 131, _, _, _, _, _⟩) (v := ?v201) rfl (by kernel_rfl) (by kernel_rfl) (by kernel_rfl) (fun _ _ _ h => h) (Or.inl ⟨rfl, ?c201⟩) hH ?r201
                case c201 => (intro w' _; go_simp; (try with_reducible rfl))
                try simp only [Act.put, List.setIfInBounds_toArray, List.set_cons_zero, List.set_cons_succ]
                refine wpAnyH_take (i := 1) (oi := ⟨some 132, _, _, _, _, _⟩) (v := ?v202) rfl (by kernel_rfl) (by kernel_rfl) (by kernel_rfl) (fun _ _ _ h => h) (Or.inl ⟨rfl, ?c202⟩) hH ?r202
                case c202 => (intro w' _; go_simp; (try with_reducible rfl))
                try simp only [Act.put, List.setIfInBounds_toArray, List.set_cons_zero, List.set_cons_succ]
                refine wpAnyH_take (i := 2) (oi := ⟨some 133, _, _, _, _, _⟩) (v := ?v203) rfl (by kernel_rfl) (by kernel_rfl) (by kernel_rfl) (fun _ _ _ h => h) (Or.inl ⟨rfl, ?c203⟩) hH ?r203
                case c203 => (intro w' hS; obtain ⟨_, _, _, hS⟩ := hS.out; obtain ⟨x0, x1, x2, x3, x4, x5, x6, x7, x8⟩ := HNX.out _ _ _ _ hS; go_simp; (try with_reducible rfl))
                try simp only [Act.put, List.setIfInBounds_toArray, List.set_cons_zero, List.set_cons_succ]
                refine wpAnyH_take (i := 4) (oi := ⟨some 135, _, _, _, _, _⟩) (v := ?v204) rfl (by kernel_rfl) (by kernel_rfl) (by kernel_rfl) (fun _ _ _ h => h) (Or.inl ⟨rfl, ?c204⟩) hH ?r204
                case c204 => (intro w' _; go_simp; (try with_reducible rfl))
                try simp only [Act.put, List.setIfInBounds_toArray, List.set_cons_zero, List.set_cons_succ]
                refine wpAnyH_take (i := 5) (oi := ⟨some 136, _, _, _, _, _⟩) (v := ?v205) rfl (by kernel_rfl) (by kernel_rfl) (by kernel_rfl) (fun _ _ _ h => h) (Or.inl ⟨rfl, ?c205⟩) hH ?r205
                case c205 => (intro w' _; go_simp; (try with_reducible rfl))
                try simp only [Act.put, List.setIfInBounds_toArray, List.set_cons_zero, List.set_cons_succ]
                refine wpAnyH_take (i := 6) (oi := ⟨some 137, _, _, _, _, _⟩) (v := ?v206) rfl (by kernel_rfl) (by kernel_rfl) (by kernel_rfl) (fun _ _ _ h => h) (Or.inl ⟨rfl, ?c206⟩) hH ?r206
                case c206 => (intro w' hS; obtain ⟨_, _, _, hS⟩ := hS.out; obtain ⟨x0, x1, x2, x3, x4, x5, x6, x7, x8⟩ := HNX.out _ _ _ _ hS; go_simp; (try with_reducible rfl))
                try simp only [Act.put, List.setIfInBounds_toArray, List.set_cons_zero, List.set_cons_succ]
                refine wpAnyH_ready (rs := [3]) (by kernel_rfl) (by simp) (AllReadyH.cons rfl (fun K hK => ?_) (AllReadyH.nil))
                go_simp
                go_at_call 17
                refine (remove_yes HM'.out (by have := HI7.out.ls; omega) 1 x.k HXO.out.k 99 x.tn true 0 s HS.out (HI7.out.held HPK.out hN2) (.inl ⟨_, HFU.out, rfl, rfl, rfl, rfl⟩)).mono ?_
                rintro e w8 ⟨Om8, rfl, h⟩
                refine hK.out _ _ (Lib.hid ⟨_, _, _, h⟩) (fun hH => ?_)
                clear hK K
                have H8 := Lib.hid h
                clear h
                try simp only [Act.put, List.setIfInBounds_toArray, List.set_cons_zero, List.set_cons_succ]
                refine wpAnyH_ready (rs := [7]) (by kernel_rfl) (by simp) (AllReadyH.cons rfl (fun K hK => ?_) (AllReadyH.nil))
                go_simp
                go_at_call 17
                refine (remove_yes H8.out (by have := HI8.out.ls; omega) 1 x.k HXO.out.k 0 false false 15 s HS.out (HI8.out.held HPK.out hN2) (.inr ⟨find_drop _ _, rfl, rfl, rfl, rfl⟩)).mono ?_
                rintro e w8 ⟨Om8, rfl, h⟩
                refine hK.out _ _ (Lib.hid ⟨_, _, _, h⟩) (fun hH => ?_)
                clear hK K
                have H9 := Lib.hid h
                clear h
                try simp only [Act.put, List.setIfInBounds_toArray, List.set_cons_zero, List.set_cons_succ]
                refine wpAnyH_take (i := 8) (oi := ⟨some 27, _, _, _, _, _⟩) (v := ?v207) rfl (by kernel_rfl) (by kernel_rfl) (by kernel_rfl) (fun _ _ _ h => h) (Or.inl ⟨rfl, ?c207⟩) hH ?r207
                case c207 => (intro w' _; go_simp; (try with_reducible rfl))
                try simp only [Act.put, List.setIfInBounds_toArray, List.set_cons_zero, List.set_cons_succ]
                refine wpAnyH_take (i := 9) (oi := ⟨some 28, _, _, _, _, _⟩) (v := ?v208) rfl (by kernel_rfl) (by kernel_rfl) (by kernel_rfl) (fun _ _ _ h => h) (Or.inl ⟨rfl, ?c208⟩) hH ?r208
                case c208 => (intro w' _; go_simp; (try with_reducible rfl))
                try simp only [Act.put, List.setIfInBounds_toArray, List.set_cons_zero, List.set_cons_succ]
                refine wpAnyH_done (by kernel_rfl) ?_ _
                have HI9 := Lib.hid (HI8.out.touch 6 (s : Int))
                have HZ : Hid ((drop x.k (drop x.k f1)).length + 1 = more) := by show _ = _; rw [drop_none (find_drop x.k f1)]; exact HLD.out
                clear hH HM HM' H8 HI7 HI8 HOK HFU
                obtain ⟨f2, hf2⟩ : ∃ v, drop x.k (drop x.k f1) = v := ⟨_, rfl⟩
                rw [hf2] at HZ H9
                clear hf2
                have d1 := HMW.out
                obtain ⟨x0, x1, x2, x3, x4, x5, x6, x7, x8⟩ := HNX.out _ _ _ _ H9.out
                go_wp2_with fail
                clear d1
                clear x0 x1 x2 x3 x4 x5 x6 x7 x8
                go_at_call 10
                refine (awake_any _).mono ?_
                rintro e wa ⟨rfl, hb⟩
                have HA := Lib.hid (H9.out.next hb)
                clear hb H9
                go_wp2_with fail
                go_at_call 24
                refine (all_any HA.out (by have := HZ.out; omega)).mono ?_
                rintro e wb ⟨p9, c9, rfl, -, hb⟩
                have HE := Lib.hid (HDW.out _ _ _ _ (HA.out.next hb))
                clear hb HA
                obtain ⟨z, hz⟩ : ∃ v, f2.length = v := ⟨_, rfl⟩
                rw [hz] at HZ ⊢
                obtain rfl : more = z + 1 := HZ.out.symm
                clear hz
                go_wp2_with fail
                go_ret
                exact ⟨rfl, HE.out⟩
        · have HI0 : Hid (Lk ms i 56) := ⟨HI.out.1.sz, HI.out.1.on, HI.out.1.off, by have := HI.out.1.ls; omega⟩
          have HF0 : Hid (fs.length ≤ 40) := by show _ ≤ _; have := HI.out.2; omega
          clear HI HD HL HO
          have HPK : Hid ((sOf i x.k : Nat) < i) := sOf_lt (by omega) x.k
          obtain ⟨s, hs⟩ : ∃ s, sOf i x.k = s := ⟨_, rfl⟩
          rw [hs] at HPK
          have HS := Lib.hid hs
          clear hs
          go_wp2_with fail
          clear h1 hj1 hj2
          go_at_call 24
          refine (all_any HM.out (by have := HF0.out; omega)).mono ?_
          rintro e w2 ⟨p0, c0, rfl, -, hb⟩
          have H2 := Lib.hid (HM.out.next hb)
          clear hb HM
          obtain ⟨hb, vx, vd, hfo, hmw⟩ := had_of (fs := fs) ⟨x.k, 99, x.tn⟩
          have HFO := Lib.hid hfo
          have HOK := Lib.hid H2.out.okf
          have HMW := Lib.hid hmw
          have HUL : Hid ((upd ⟨x.k, 99, x.tn⟩ fs).length ≤ 41) := Nat.le_trans (len_upd _ _) (Nat.succ_le_succ HF0.out)
          have HFU : Hid (find x.k (upd ⟨x.k, 99, x.tn⟩ fs) = some ⟨x.k, 99, x.tn⟩) := find_upd HOK.out (g := ⟨x.k, 99, x.tn⟩) ⟨HXO.out.k, by show (-9223372036854775808 : Int) ≤ 99; omega, by show (99 : Int) ≤ 9223372036854775807; omega⟩
          clear hfo hmw
          obtain ⟨was, hwas⟩ : ∃ v, fs.length = v := ⟨_, rfl⟩
          rw [hwas] at HMW ⊢
          clear hwas
          obtain ⟨x0, x1, x2, x3, x4, x5, x6, x7, x8⟩ := HNX.out _ _ _ _ H2.out
          go_wp2_with fail
          clear x0 x1 x2 x3 x4 x5 x6 x7 x8
          go_at_call 22
          refine (find_yes H2.out (by have := HI0.out.ls; omega) 1 x.k HXO.out.k vx vd hb s HS.out (HI0.out.held HPK.out hN2) HFO.out).mono ?_
          rintro e w3 ⟨Om3, rfl, h⟩
          have H3 := Lib.hid h
          have HI3 := Lib.hid (HI0.out.touch 5 (s : Int))
          generalize touchS ms 1 5 (s : Int) = ms3 at H3 HI3
          clear h H2 HI0 HFO
          obtain ⟨x0, x1, x2, x3, x4, x5, x6, x7, x8⟩ := HNX.out _ _ _ _ H3.out
          go_wp2_with fail
          clear x0 x1 x2 x3 x4 x5 x6 x7 x8
          go_at_call 15
          refine (put_yes H3.out (by have := HI3.out.ls; omega) 1 x.k HXO.out.k 99 x.tn s HS.out (HI3.out.held HPK.out hN2) ⟨by omega, by omega⟩).mono ?_
          rintro e w4 ⟨Om4, rfl, h⟩
          have H4 := Lib.hid h
          have HI4 := Lib.hid (HI3.out.touch 6 (s : Int))
          generalize touchS ms3 1 6 (s : Int) = ms4 at H4 HI4
          clear h H3 HI3
          obtain ⟨f1, hf1⟩ : ∃ v, upd ⟨x.k, 99, x.tn⟩ fs = v := ⟨_, rfl⟩
          rw [hf1] at H4 HUL HFU HMW
          clear hf1 HF0 HOK
          have HOK := Lib.hid H4.out.okf
          obtain ⟨x0, x1, x2, x3, x4, x5, x6, x7, x8⟩ := HNX.out _ _ _ _ H4.out
          go_wp2_with fail
          clear x0 x1 x2 x3 x4 x5 x6 x7 x8
          go_at_call 22
          refine (find_yes H4.out (by have := HI4.out.ls; omega) 1 x.k HXO.out.k 99 x.tn true s HS.out (HI4.out.held HPK.out hN2) (.inl ⟨_, HFU.out, rfl, rfl, rfl⟩)).mono ?_
          rintro e w5 ⟨Om5, rfl, h⟩
          have H5 := Lib.hid h
          have HI5 := Lib.hid (HI4.out.touch 5 (s : Int))
          generalize touchS ms4 1 5 (s : Int) = ms5 at H5 HI5
          clear h H4 HI4
          go_wp2_with fail
          go_at_call 24
          refine (all_any H5.out (by have := HUL.out; omega)).mono ?_
          rintro e w6 ⟨p6, c6, rfl, -, hb⟩
          have H6 := Lib.hid (H5.out.next hb)
          clear hb H5
          have HFL := Lib.hid (flat_all (sOf i) i (fun k => sOf_lt (by omega) k) f1).length_eq
          have HLD := Lib.hid (HOK.out.len_drop HFU.out)
          obtain ⟨more, hmore⟩ : ∃ v, f1.length = v := ⟨_, rfl⟩
          rw [hmore] at HUL HMW HFL HLD ⊢
          have HML := Lib.hid hmore
          have hm41 : more ≤ 41 := HUL.out
          clear hmore HUL
          go_wp2_with fail
          have HI6 : Hid (Lk ms5 i 60) := ⟨HI5.out.sz, HI5.out.on, HI5.out.off, by have := HI5.out.ls; omega⟩
          clear HI5
          go_loopw [22, 23] (fun vs vr wr => ∃ (r : Nat) (Om : Nat → Prop) (ms : Ms), vr = .int .i64 (r : Int) ∧ vs = .int .i64 (((flat (fun r => part i r f1) r).length : Nat) : Int) ∧ r ≤ i ∧ Hid (TM (fw W1) Om Ot mb B ms i f1 wr) ∧ Hid (Lk ms i (60 + r))) (fun _ vr _ => i - (RowKit.intOf vr).toNat)
          case atStart => exact ⟨0, _, _, rfl, rfl, by omega, H6, HI6⟩
          case round =>
            clear H6 HI6
            obtain ⟨r, Omr, msr, rfl, rfl, hr1, HM, HI⟩ := hrel
            by_cases hr : r < i
            · have hfl := flat_len (fun r => part i r f1) hr
              rw [HFL.out] at hfl
              have HFS := Lib.hid (flat_succ (fun r => part i r f1) r)
              obtain ⟨ps, hps⟩ : ∃ v, part i r f1 = v := ⟨_, rfl⟩
              have HPS : Hid (∀ f ∈ ps, f.k.Ok ∧ sOf i f.k = r) := fun f hf => by
                rw [← hps] at hf
                exact ⟨(HOK.out.ok f (mem_part.1 hf).1).k, (mem_part.1 hf).2⟩
              obtain ⟨fl, hfl0⟩ : ∃ v, (flat (fun r => part i r f1) r).length = v := ⟨_, rfl⟩
              have HKY := Lib.hid (keys_yes HM.out (by have := HI.out.ls; omega) (by rw [HML.out]; omega) 1 r hr (HI.out.held hr hN2))
              rw [hps] at HKY
              have HNF : Hid ((flat (fun r => part i r f1) (r + 1)).length = fl + ps.length) := by show _ = _; rw [HFS.out, List.length_append, hfl0, ← hps]
              replace hfl : fl + ps.length ≤ more := by rw [← hps, ← hfl0]; exact hfl
              have HI2 := Lib.hid (HI.out.touch 5 (r : Int))
              rw [hfl0]
              clear HFS hps hfl0
              go_wp2_with fail
              go_at_call 19
              refine HKY.out.mono ?_
              rintro e w7 ⟨p7, c7, Om7, rfl, hk, h⟩
              have H7 := Lib.hid h
              have HK7 : Hid (Kys w7 0 p7 (ps.map (·.k))) := fun h0 => by
                obtain ⟨g, e1, -, e3, e4⟩ := hk h0
                exact ⟨g, e1, Nat.zero_le _, e3, e4⟩
              obtain ⟨pl, hpl⟩ : ∃ v, ps.length = v := ⟨_, rfl⟩
              have HPL := Lib.hid hpl
              rw [hpl] at hfl HNF ⊢
              clear h hk HKY HM HI hpl
              go_wp2_with fail
              go_loopw [26] (fun vu wr => ∃ u : Nat, vu = .int .i64 (u : Int) ∧ u ≤ pl ∧ Hid (TM (fw W1) Om7 Ot mb B (touchS msr 1 5 (r : Int)) i f1 wr) ∧ Hid (Kys wr 0 p7 (ps.map (·.k)))) (fun vu _ => pl - (RowKit.intOf vu).toNat)
              case atStart => exact ⟨0, rfl, by omega, H7, HK7⟩
              case round =>
                clear H7 HK7
                obtain ⟨u, rfl, hu, HM, HK⟩ := hrel
                by_cases hup : u < pl
                · obtain ⟨f, hf⟩ : ∃ f, ps[u]? = some f := ⟨_, List.getElem?_eq_getElem (by rw [HPL.out]; exact hup)⟩
                  obtain ⟨hko, hks⟩ := HPS.out f (List.mem_of_getElem? hf)
                  have HST : Hid (∀ W', Calls Try.prog 28 #[.agg (Ky.kyc f.k.a f.k.b f.k.p f.k.q f.k.r), .int .i64 (i : Int)] W' fun e w' => e = .returned (.int .i64 (r : Int)) ∧ Below W'.heap.size W' w') := fun W' =>
                    Ky.refStripe_any f.k.a f.k.b f.k.p f.k.q f.k.r (i : Int) hko.a hko.b hko.p hko.q hko.r _ rfl _ (by rw [str_is hP, hks]) W'
                  obtain ⟨g, rfl, -, -, hat⟩ := HK.out (by rw [List.length_map, HPL.out]; omega)
                  obtain ⟨y0, y1, y2, y3, y4⟩ := hat u f.k (by rw [List.getElem?_map, hf]; rfl)
                  clear hat hko hks hf
                  go_wp2_with fail
                  go_at_call 28
                  refine (HST.out _).mono ?_
                  rintro e w8 ⟨rfl, hb⟩
                  have H8 := Lib.hid (HM.out.next hb)
                  have HK8 := Lib.hid (HK.out.next hb)
                  clear hb HM HK HST y0 y1 y2 y3 y4
                  go_wp2_with fail
                  go_roundw
                  case rel => exact ⟨u + 1, by go_num, by omega, H8, HK8⟩
                  case measure => simp [RowKit.intOf]; omega
                · obtain rfl : u = pl := by omega
                  go_wp2_with fail
                  go_roundw
                  case rel => exact ⟨r + 1, _, _, by go_num, by rw [HNF.out]; go_num, by omega, HM, HI2⟩
                  case measure => simp [RowKit.intOf]; omega
            · have hsum : (flat (fun r => part i r f1) r).length = more := by rw [show r = i by omega]; exact HFL.out
              rw [hsum]
              clear hsum HFL
              have HI7 : Hid (Lk msr i 80) := ⟨HI.out.sz, HI.out.on, HI.out.off, by have := HI.out.ls; omega⟩
              have HI8 := Lib.hid (HI7.out.touch 6 (s : Int))
              have HM' := Lib.hid (HM.out.next (Below.refl _ _).drew)
              go_wp2_with fail
              clear hr hr1 HI
              refine wp_region_held_drew (S := fun w' => Hid (∃ Om ms fs, TM (fw W1) Om Ot mb B ms i fs w')) (by kernel_rfl) (Lib.hid ⟨_, _, _, HM'.out⟩) (fun hH => ?_)
              refine wpAnyH_take (i := 0) (oi := ⟨some 131, _, _, _, _, _⟩) (v := ?v401) rfl (by kernel_rfl) (by kernel_rfl) (by kernel_rfl) (fun _ _ _ h => h) (Or.inl ⟨rfl, ?c401⟩) hH ?r401
              case c401 => (intro w' _; go_simp; (try with_reducible rfl))
              try simp only [Act.put, List.setIfInBounds_toArray, List.set_cons_zero, List.set_cons_succ]
              refine wpAnyH_take (i := 1) (oi := ⟨some 132, _, _, _, _, _⟩) (v := ?v402) rfl (by kernel_rfl) (by kernel_rfl) (by kernel_rfl) (fun _ _ _ h => h) (Or.inl ⟨rfl, ?c402⟩) hH ?r402
              case c402 => (intro w' _; go_simp; (try with_reducible rfl))
              try simp only [Act.put, List.setIfInBounds_toArray, List.set_cons_zero, List.set_cons_succ]
              refine wpAnyH_take (i := 2) (oi := ⟨some 133, _, _, _, _, _⟩) (v := ?v403) rfl (by kernel_rfl) (by kernel_rfl) (by kernel_rfl) (fun _ _ _ h => h) (Or.inl ⟨rfl, ?c403⟩) hH ?r403
              case c403 => (intro w' hS; obtain ⟨_, _, _, hS⟩ := hS.out; obtain ⟨x0, x1, x2, x3, x4, x5, x6, x7, x8⟩ := HNX.out _ _ _ _ hS; go_simp; (try with_reducible rfl))
              try simp only [Act.put, List.setIfInBounds_toArray, List.set_cons_zero, List.set_cons_succ]
              refine wpAnyH_take (i := 4) (oi := ⟨some 135, _, _, _, _, _⟩) (v := ?v404) rfl (by kernel_rfl) (by kernel_rfl) (by kernel_rfl) (fun _ _ _ h => h) (Or.inl ⟨rfl, ?c404⟩) hH ?r404
              case c404 => (intro w' _; go_simp; (try with_reducible rfl))
              try simp only [Act.put, List.setIfInBounds_toArray, List.set_cons_zero, List.set_cons_succ]
              refine wpAnyH_take (i := 5) (oi := ⟨some 136, _, _, _, _, _⟩) (v := ?v405) rfl (by kernel_rfl) (by kernel_rfl) (by kernel_rfl) (fun _ _ _ h => h) (Or.inl ⟨rfl, ?c405⟩) hH ?r405
              case c405 => (intro w' _; go_simp; (try with_reducible rfl))
              try simp only [Act.put, List.setIfInBounds_toArray, List.set_cons_zero, List.set_cons_succ]
              refine wpAnyH_take (i := 6) (oi := ⟨some 137, _, _, _, _, _⟩) (v := ?v406) rfl (by kernel_rfl) (by kernel_rfl) (by kernel_rfl) (fun _ _ _ h => h) (Or.inl ⟨rfl, ?c406⟩) hH ?r406
              case c406 => (intro w' hS; obtain ⟨_, _, _, hS⟩ := hS.out; obtain ⟨x0, x1, x2, x3, x4, x5, x6, x7, x8⟩ := HNX.out _ _ _ _ hS; go_simp; (try with_reducible rfl))
              try simp only [Act.put, List.setIfInBounds_toArray, List.set_cons_zero, List.set_cons_succ]
              refine wpAnyH_ready (rs := [3]) (by kernel_rfl) (by simp) (AllReadyH.cons rfl (fun K hK => ?_) (AllReadyH.nil))
              go_simp
              go_at_call 17
              refine (remove_yes HM'.out (by have := HI7.out.ls; omega) 1 x.k HXO.out.k 99 x.tn true 0 s HS.out (HI7.out.held HPK.out hN2) (.inl ⟨_, HFU.out, rfl, rfl, rfl, rfl⟩)).mono ?_
              rintro e w8 ⟨Om8, rfl, h⟩
              refine hK.out _ _ (Lib.hid ⟨_, _, _, h⟩) (fun hH => ?_)
              clear hK K
              have H8 := Lib.hid h
              clear h
              try simp only [Act.put, List.setIfInBounds_toArray, List.set_cons_zero, List.set_cons_succ]
              refine wpAnyH_ready (rs := [7]) (by kernel_rfl) (by simp) (AllReadyH.cons rfl (fun K hK => ?_) (AllReadyH.nil))
              go_simp
              go_at_call 17
              refine (remove_yes H8.out (by have := HI8.out.ls; omega) 1 x.k HXO.out.k 0 false false 15 s HS.out (HI8.out.held HPK.out hN2) (.inr ⟨find_drop _ _, rfl, rfl, rfl, rfl⟩)).mono ?_
              rintro e w8 ⟨Om8, rfl, h⟩
              refine hK.out _ _ (Lib.hid ⟨_, _, _, h⟩) (fun hH => ?_)
              clear hK K
              have H9 := Lib.hid h
              clear h
              try simp only [Act.put, List.setIfInBounds_toArray, List.set_cons_zero, List.set_cons_succ]
              refine wpAnyH_take (i := 8) (oi := ⟨some 27, _, _, _, _, _⟩) (v := ?v407) rfl (by kernel_rfl) (by kernel_rfl) (by kernel_rfl) (fun _ _ _ h => h) (Or.inl ⟨rfl, ?c407⟩) hH ?r407
              case c407 => (intro w' _; go_simp; (try with_reducible rfl))
              try simp only [Act.put, List.setIfInBounds_toArray, List.set_cons_zero, List.set_cons_succ]
              refine wpAnyH_take (i := 9) (oi := ⟨some 28, _, _, _, _, _⟩) (v := ?v408) rfl (by kernel_rfl) (by kernel_rfl) (by kernel_rfl) (fun _ _ _ h => h) (Or.inl ⟨rfl, ?c408⟩) hH ?r408
              case c408 => (intro w' _; go_simp; (try with_reducible rfl))
              try simp only [Act.put, List.setIfInBounds_toArray, List.set_cons_zero, List.set_cons_succ]
              refine wpAnyH_done (by kernel_rfl) ?_ _
              have HI9 := Lib.hid (HI8.out.touch 6 (s : Int))
              have HZ : Hid ((drop x.k (drop x.k f1)).length + 1 = more) := by show _ = _; rw [drop_none (find_drop x.k f1)]; exact HLD.out
              clear hH HM HM' H8 HI7 HI8 HOK HFU
              obtain ⟨f2, hf2⟩ : ∃ v, drop x.k (drop x.k f1) = v := ⟨_, rfl⟩
              rw [hf2] at HZ H9
              clear hf2
              have d1 := HMW.out
              obtain ⟨x0, x1, x2, x3, x4, x5, x6, x7, x8⟩ := HNX.out _ _ _ _ H9.out
              go_wp2_with fail
              clear d1
              clear x0 x1 x2 x3 x4 x5 x6 x7 x8
              go_at_call 10
              refine (awake_any _).mono ?_
              rintro e wa ⟨rfl, hb⟩
              have HA := Lib.hid (H9.out.next hb)
              clear hb H9
              go_wp2_with fail
              go_at_call 24
              refine (all_any HA.out (by have := HZ.out; omega)).mono ?_
              rintro e wb ⟨p9, c9, rfl, -, hb⟩
              have HE := Lib.hid (HDW.out _ _ _ _ (HA.out.next hb))
              clear hb HA
              obtain ⟨z, hz⟩ : ∃ v, f2.length = v := ⟨_, rfl⟩
              rw [hz] at HZ ⊢
              obtain rfl : more = z + 1 := HZ.out.symm
              clear hz
              go_wp2_with fail
              go_ret
              exact ⟨rfl, HE.out⟩
end Tb
end Go.Proofs.Ytgcnhbjoalemlaa
/- For every input, the law TableHeld of package mantletlaw20 returns true, and each argument reads afterwards as it read before. No conditions. -/
namespace Go.Proofs.Ytgcnhbjoalemlaa.tableHeld
open Go.ChangeShapes Go.WideShapes Go.ChangeAt Go.RowKit Go.Mtl
open Go.ChangeMaps (open_string shut_string)
set_option linter.unusedVariables false

theorem own : ownKnob Try.prog.godebug = none := by kernel_rfl
theorem laidOut : laidOutB Try.prog = true := by kernel_rfl

set_option maxRecDepth 100000 in
theorem lifted (os : Os) (started : os.Started) (H : Type) (enc : TypeId × Value → H) :
    ReturnsInHanded {} Try.checked os 4 .any (Rows.tableHeldSpec.pre6 enc Try.prog Try.f4 Rows.tableHeldRow.domain false) (Rows.tableHeldSpec.post enc Try.prog Try.f4 false true false false) := by
  refine returnsInHanded_of_change (C := Try.checked) own started (by kernel_rfl) Try.func4
    (ChangeSpec.witness6 (enc := enc) (C := Try.checked) false ⟨#[], #[.int .u8 0, .slice none 0 0, .agg #[.int .u8 0, .int .i64 0, .int .i64 0, .int .u32 0, .int .u32 0, .int .u16 0, .int .u16 0, .int .u8 0, .bool false]], []⟩ 8 (by kernel_rfl) (by kernel_rfl) (by kernel_rfl) (by kernel_rfl)) ?_
  intro W base args ds gs before hval0 hW hcnd _
  have hval : ∀ (j : Nat) t v, Try.f4.params[j]? = some t → args[j]? = some v → Value.okWide Try.prog W .any base t v := hval0
  have hW' := hW
  obtain ⟨p, q, hA0, hV, rfl, hfz, hnd⟩ := hW
  have hA : DataW.TrodAll enc Try.prog W 0 (fun _ => true) true Try.f4.params.toList args.toList ds p := hA0
  rw [Try.params4] at hA hval
  obtain ⟨v0, vs0, d0, ds0, p0, q0, hargs, rfl, rfl, h0, r0⟩ := trodAll_cons hA
  obtain ⟨v1, vs1, d1, ds1, p1, q1, rfl, rfl, rfl, h1, r1⟩ := trodAll_cons r0
  obtain ⟨v2, vs2, d2, ds2, p2, q2, rfl, rfl, rfl, h2, r2⟩ := trodAll_cons r1
  obtain ⟨rfl, rfl, rfl⟩ := trodAll_nil r2
  obtain rfl : args = #[v0, v1, v2] := by cases args; simp_all
  obtain ⟨rfl, rfl⟩ := trodVars_none hV
  have k0 := h0
  have lt0 : ∀ x ∈ p0, x.block < W.heap.size := by obtain ⟨m, hm⟩ := k0; exact DataW.trod_lt m _ _ _ hm
  obtain ⟨a0, rfl, _, _, w0⟩ := open_int Try.underlying5 (hval 0 5 v0 rfl rfl) h0
  have k1 := h1
  have lt1 : ∀ x ∈ p1, x.block < W.heap.size := by obtain ⟨m, hm⟩ := k1; exact DataW.trod_lt m _ _ _ hm
  obtain ⟨a1, len1, cap1, rfl⟩ := okWide_slice Try.underlying22 (hval 1 22 v1 rfl rfl)
  obtain ⟨xs1, l1_, w1, o1⟩ := Tb.open_dts Tb.dtTypes Try.underlying22 h1
  have k2 := h2
  have lt2 : ∀ x ∈ p2, x.block < W.heap.size := by obtain ⟨m, hm⟩ := k2; exact DataW.trod_lt m _ _ _ hm
  obtain ⟨x2_, rfl, o2⟩ := Tb.open_dt Tb.dtTypes (hval 2 39 v2 rfl rfl) h2
  clear hA0 hval0
  refine (Tb.tableHeld_walk a0 a1 len1 cap1 xs1 x2_ W (bounds_u8 w0) ⟨l1_, w1, o1⟩ o2).mono fun e W' ⟨he, bel⟩ => ?_
  subst he
  exact ⟨_, rfl, _, _, _, [], _, [], hW', trodAll_mk1 (shut_bool Try.underlying4 _), (trodAll_cons_mk (Below.trod laidOut (by kernel_rfl) (of_decide_eq_true (by kernel_rfl)) k0 bel lt0) (trodAll_cons_mk (Below.trod laidOut (by kernel_rfl) (of_decide_eq_true (by kernel_rfl)) k1 bel lt1) (trodAll_cons_mk (Below.trod laidOut (by kernel_rfl) (of_decide_eq_true (by kernel_rfl)) k2 bel lt2) trodAll_mk0))), rfl, bel.frame _, fun h => by cases h⟩

theorem over : Rows.tableHeldRow.holds Try.pinned (OpenSpec.ofChange Rows.tableHeldSpec) :=
  OpenClaim.holds_of_wide 4 Try.f4 rfl rfl rfl rfl rfl rfl rfl ⟨rfl, rfl, rfl, rfl, rfl⟩ rfl rfl rfl rfl rfl (by kernel_rfl) Try.func4 (by kernel_rfl)
    (of_decide_eq_true (by kernel_rfl)) (by unfold Func.isWrapper; first | (rw [if_pos (by decide +kernel)]; kernel_rfl) | (rw [if_neg (by decide +kernel)]; exact ⟨rfl, rfl⟩))
    (fun os started H enc _ => lifted os started H enc)

theorem proved : Rows.TableHeldSaid := over
#print axioms proved
end Go.Proofs.Ytgcnhbjoalemlaa.tableHeld
