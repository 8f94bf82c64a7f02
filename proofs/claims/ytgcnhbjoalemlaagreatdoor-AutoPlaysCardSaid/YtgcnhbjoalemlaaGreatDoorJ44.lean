/- Several texts of this proof in one file, each in its own namespace. -/
import Derived.Test.YtgcnhbjoalemlaaGreatDoorJ43
import Derived.Test.YtgcnhbjoalemlaaGreatDoorComQ
import Derived.Test.YtgcnhbjoalemlaaGreatDoorJ13
import Derived.Deep.MidRow
import Derived.Test.YtgcnhbjoalemlaaGreatDoorJ30
import Derived.Test.YtgcnhbjoalemlaaGreatDoorJ36
import Derived.Test.YtgcnhbjoalemlaaGreatDoorComR
import Derived.Test.YtgcnhbjoalemlaaGreatDoorJ34
import Derived.Test.YtgcnhbjoalemlaaGreatDoorJ42
/- Layer 18: a config that came in by value; a slice of acts that came in. -/
set_option linter.unusedVariables false
set_option linter.unusedSimpArgs false
set_option maxRecDepth 100000
namespace Go.Proofs.YtgcnhbjoalemlaaGreatDoor
open Go.ChangeShapes Go.WideShapes Go.ChangeAt Go.RowKit Go.Mtl Go.Lib Go.Deep
namespace Au
open AutM
open RulM (R)
open MatM (K)
section
variable {H : Type} {enc : TypeId × Value → H} {P : Program} {w : World} {base : Nat} {spare : Nat → Bool} {held : Bool}
/-- An array of integers, cell by cell. -/
theorem trod_ints {t e : TypeId} {k : IntKind} {m : Nat} (ha : P.underlying t = some (.array m e)) (he : P.underlying e = some (.int k)) (hc : P.cellsOf e = 1) {n : Nat} {cs : List Value} (hl : cs.length = m) {x : DataW H × List MemPlace}
    (h : DataW.trod enc P w base spare held n t cs = some x) : ∃ f : Nat → Int, ∀ i, i < m → cs[i]? = some (.int k (f i)) ∧ (Lit.int k (f i)).wf = true := by
  obtain ⟨xs, m', _, _, _, hxl, hg⟩ := DataW.trod_array ha h
  have one : ∀ i : Nat, i < m → ∃ a : Int, cs[i]? = some (.int k a) ∧ (Lit.int k a).wf = true := by
    intro i hi
    have g := hg i hi
    rw [hc, Nat.mul_one] at g
    rw [List.drop_eq_getElem_cons (by omega), List.take_succ_cons, List.take_zero, List.getElem?_eq_getElem (by omega)] at g
    obtain ⟨a, ea, _, wa⟩ := DataW.trod_int he g
    refine ⟨a, ?_, wa⟩
    rw [List.getElem?_eq_getElem (by omega)]
    simpa using ea
  have F : ∀ i : Nat, ∃ a : Int, i < m → cs[i]? = some (.int k a) ∧ (Lit.int k a).wf = true := by
    intro i
    by_cases hi : i < m
    · obtain ⟨a, ha⟩ := one i hi
      exact ⟨a, fun _ => ha⟩
    · exact ⟨0, fun h => absurd h hi⟩
  exact ⟨fun i => Classical.choose (F i), fun i hi => Classical.choose_spec (F i) hi⟩
/-- A config by value. -/
theorem open_cfg {r : Reach} {b0 : Nat} {t ti ta : TypeId} {fs : Array Field} {v : Value} {d : DataW H} {p : List MemPlace} (hs : P.underlying t = some (.struct fs)) (hC : P.cellsOf t = 18) (hf : fs.toList.map (fun f => (f.type, f.offset)) = [(ti, 0), (ti, 1), (ta, 2)])
    (hi : P.underlying ti = some (.int .i64)) (ha : P.underlying ta = some (.array 16 ti)) (ci : P.cellsOf ti = 1) (ca : P.cellsOf ta = 16) (hv : Value.okWide P w r b0 t v) (h : DataW.Trod enc P w base spare held t v d p) :
    ∃ (z N : Int) (T : Nat → Int), v = .agg (cfc z N T) ∧ (-9223372036854775808 ≤ z ∧ z ≤ 9223372036854775807) ∧ (-9223372036854775808 ≤ N ∧ N ≤ 9223372036854775807) ∧ ∀ i, -9223372036854775808 ≤ T i ∧ T i ≤ 9223372036854775807 := by
  obtain ⟨vs, rfl, hsz⟩ := okWide_struct hs hv
  obtain ⟨fuel, hfu⟩ := h
  obtain ⟨ys, n, _, _, _, hyl, hg⟩ := DataW.trod_struct hs hfu
  rw [hC] at hsz
  obtain ⟨l⟩ := vs
  obtain ⟨fl⟩ := fs
  obtain ⟨f0, f1, f2, rfl⟩ : ∃ f0 f1 f2, fl = [f0, f1, f2] := by
    rcases fl with _ | ⟨f0, _ | ⟨f1, _ | ⟨f2, _ | ⟨f3, fl⟩⟩⟩⟩
    · simp at hf
    · simp at hf
    · simp at hf
    · exact ⟨_, _, _, rfl⟩
    · simp at hf
  simp only [List.map_cons, List.map_nil, List.cons.injEq, Prod.mk.injEq, and_true] at hf
  obtain ⟨⟨t0, o0⟩, ⟨t1, o1⟩, t2, o2⟩ := hf
  have g0 := hg 0 f0 rfl
  have g1 := hg 1 f1 rfl
  have g2 := hg 2 f2 rfl
  have hy : ys.length = 3 := hyl
  have hcs : (Value.agg (⟨l⟩ : Array Value)).cells.toList = l := by simp [Value.cells]
  have hll : l.length = 18 := by simpa using hsz
  rw [t0, o0, ci, List.getElem?_eq_getElem (by omega), hcs] at g0
  rw [t1, o1, ci, List.getElem?_eq_getElem (by omega), hcs] at g1
  rw [t2, o2, ca, List.getElem?_eq_getElem (by omega), hcs] at g2
  obtain ⟨T, hT⟩ := trod_ints ha hi ci (by simp; omega) g2
  match l, hll with
  | [c0, c1, d0, d1, d2, d3, d4, d5, d6, d7, d8, d9, e0, e1, e2, e3, e4, e5], _ =>
    simp only [List.drop_zero, List.take_succ_cons, List.take_zero, List.drop_succ_cons] at g0 g1
    obtain ⟨z, ez, _, wz⟩ := DataW.trod_int hi g0
    obtain ⟨N, eN, _, wN⟩ := DataW.trod_int hi g1
    obtain rfl : c0 = .int .i64 z := by simpa using ez
    obtain rfl : c1 = .int .i64 N := by simpa using eN
    simp only [List.take_succ_cons, List.take_zero, List.drop_zero, List.drop_succ_cons] at hT
    have q : ∀ i, i < 16 → -9223372036854775808 ≤ T i ∧ T i ≤ 9223372036854775807 := fun i hi => by have := bounds_i64 (hT i hi).2; omega
    refine ⟨z, N, fun i => if i < 16 then T i else 0, ?_, bounds_i64 wz, bounds_i64 wN, fun i => ?_⟩
    · have x0 := (hT 0 (by omega)).1
      have x1 := (hT 1 (by omega)).1
      have x2 := (hT 2 (by omega)).1
      have x3 := (hT 3 (by omega)).1
      have x4 := (hT 4 (by omega)).1
      have x5 := (hT 5 (by omega)).1
      have x6 := (hT 6 (by omega)).1
      have x7 := (hT 7 (by omega)).1
      have x8 := (hT 8 (by omega)).1
      have x9 := (hT 9 (by omega)).1
      have y0 := (hT 10 (by omega)).1
      have y1 := (hT 11 (by omega)).1
      have y2 := (hT 12 (by omega)).1
      have y3 := (hT 13 (by omega)).1
      have y4 := (hT 14 (by omega)).1
      have y5 := (hT 15 (by omega)).1
      simp at x0 x1 x2 x3 x4 x5 x6 x7 x8 x9 y0 y1 y2 y3 y4 y5
      subst x0 x1 x2 x3 x4 x5 x6 x7 x8 x9 y0 y1 y2 y3 y4 y5
      rfl
    · show _ ≤ (if i < 16 then T i else 0) ∧ (if i < 16 then T i else 0) ≤ _
      split
      · exact q i (by assumption)
      · omega
/-- The types of an act, of one program. -/
structure DoTypes (P : Program) (t : TypeId) : Prop where
  ty : ∃ (fs fp fk : Array Field) (t8 ti tp tk tl ta tb tr t32 t16 : TypeId), P.underlying t = some (.struct fs) ∧ fs.toList.map (fun f => (f.type, f.offset)) = [(t8, 0), (ti, 1), (tp, 2), (tk, 9), (tl, 14)] ∧
    P.underlying t8 = some (.int .u8) ∧ P.underlying ti = some (.int .i64) ∧ P.underlying tp = some (.struct fp) ∧ oneCellFields P fp = true ∧ fp.size = 7 ∧ kindsB P fp [.u8, .u32, .u32, .u16, .u16, .u8, .u8] = true ∧
    P.underlying tk = some (.struct fk) ∧ fk.toList.map (fun f => (f.type, f.offset)) = [(ta, 0), (tb, 2), (t8, 4)] ∧ P.underlying ta = some (.array 2 t32) ∧ P.underlying tb = some (.array 2 t16) ∧ P.underlying t32 = some (.int .u32) ∧ P.underlying t16 = some (.int .u16) ∧
    P.underlying tl = some (.slice tr) ∧ RuleTypes P tr ∧ P.cellsOf t = 15 ∧ P.cellsOf t8 = 1 ∧ P.cellsOf ti = 1 ∧ P.cellsOf tp = 7 ∧ P.cellsOf tk = 5 ∧ P.cellsOf tl = 1 ∧ P.cellsOf ta = 2 ∧ P.cellsOf tb = 2 ∧ P.cellsOf t32 = 1 ∧ P.cellsOf t16 = 1
/-- The fifteen cells of an act that was read. -/
theorem open_fifteen {t : TypeId} (D : DoTypes P t) {n : Nat} {cs : List Value} (hl : cs.length = 15) {x : DataW H × List MemPlace} (h : DataW.trod enc P w 0 (fun _ => true) true n t cs = some x) :
    ∃ y : Dk, cs = (doC y).toList ∧ y.Ok ∧ Rds w w.heap.size y.va y.l := by
  obtain ⟨fs, fp, fk, t8, ti, tp, tk, tl, ta, tb, tr, t32, t16, hs, hf, h8, hi, hp, hone, hpz, hkb, hk, hkf, hta, htb, h32, h16, htl, hrt, ct, c8, ci, cp, ck, cl, ca, cb, c32, c16⟩ := D.ty
  obtain ⟨ys, m, _, _, _, hyl, hg⟩ := DataW.trod_struct hs h
  obtain ⟨fl⟩ := fs
  obtain ⟨f0, f1, f2, f3, f4, rfl⟩ : ∃ f0 f1 f2 f3 f4, fl = [f0, f1, f2, f3, f4] := by
    rcases fl with _ | ⟨f0, _ | ⟨f1, _ | ⟨f2, _ | ⟨f3, _ | ⟨f4, _ | ⟨f5, fl⟩⟩⟩⟩⟩⟩
    · simp at hf
    · simp at hf
    · simp at hf
    · simp at hf
    · simp at hf
    · exact ⟨_, _, _, _, _, rfl⟩
    · simp at hf
  simp only [List.map_cons, List.map_nil, List.cons.injEq, Prod.mk.injEq, and_true] at hf
  obtain ⟨⟨e0, o0⟩, ⟨e1, o1⟩, ⟨e2, o2⟩, ⟨e3, o3⟩, e4, o4⟩ := hf
  have hy : ys.length = 5 := hyl
  have g0 := hg 0 f0 rfl
  have g1 := hg 1 f1 rfl
  have g2 := hg 2 f2 rfl
  have g3 := hg 3 f3 rfl
  have g4 := hg 4 f4 rfl
  rw [e0, o0, c8, List.getElem?_eq_getElem (by omega)] at g0
  rw [e1, o1, ci, List.getElem?_eq_getElem (by omega)] at g1
  rw [e2, o2, cp, List.getElem?_eq_getElem (by omega)] at g2
  rw [e3, o3, ck, List.getElem?_eq_getElem (by omega)] at g3
  rw [e4, o4, cl, List.getElem?_eq_getElem (by omega)] at g4
  match cs, hl with
  | [v0, v1, p0, p1, p2, p3, p4, p5, p6, k0, k1, k2, k3, k4, vl], _ =>
    simp only [List.drop_zero, List.take_succ_cons, List.take_zero, List.drop_succ_cons] at g0 g1 g2 g3 g4
    obtain ⟨kd, ekd, _, wkd⟩ := DataW.trod_int h8 g0
    obtain ⟨xn, exn, _, wxn⟩ := DataW.trod_int hi g1
    obtain rfl : v0 = .int .u8 kd := by simpa using ekd
    obtain rfl : v1 = .int .i64 xn := by simpa using exn
    obtain ⟨r, ⟨hrl, hrf⟩, hrc⟩ := open_ints_row (ks := [.u8, .u32, .u32, .u16, .u16, .u8, .u8]) hp hone (by rw [hpz]; rfl) (kinds_of hkb) rfl g2
    match r, hrl with
    | [q0, q1, q2, q3, q4, q5, q6], _ =>
      have z0 := hrc 0 _ _ rfl rfl
      have z1 := hrc 1 _ _ rfl rfl
      have z2 := hrc 2 _ _ rfl rfl
      have z3 := hrc 3 _ _ rfl rfl
      have z4 := hrc 4 _ _ rfl rfl
      have z5 := hrc 5 _ _ rfl rfl
      have z6 := hrc 6 _ _ rfl rfl
      simp at z0 z1 z2 z3 z4 z5 z6
      have b0 := bounds_u8 (hrf 0 _ _ rfl rfl)
      have b1 := bounds_u32 (hrf 1 _ _ rfl rfl)
      have b2 := bounds_u32 (hrf 2 _ _ rfl rfl)
      have b3 := bounds_u16 (hrf 3 _ _ rfl rfl)
      have b4 := bounds_u16 (hrf 4 _ _ rfl rfl)
      have b5 := bounds_u8 (hrf 5 _ _ rfl rfl)
      have b6 := bounds_u8 (hrf 6 _ _ rfl rfl)
      subst z0 z1 z2 z3 z4 z5 z6
      obtain ⟨kk, hkk, rfl, rfl, rfl, rfl, rfl, rfl, rfl⟩ := MatM.k_of ⟨b0, b1, b2, b3, b4, b5, b6⟩
      obtain ⟨ks, m2, _, _, _, hkl, hkg⟩ := DataW.trod_struct hk g3
      obtain ⟨fl2⟩ := fk
      obtain ⟨j0, j1, j2, rfl⟩ : ∃ j0 j1 j2, fl2 = [j0, j1, j2] := by
        rcases fl2 with _ | ⟨f0, _ | ⟨f1, _ | ⟨f2, _ | ⟨f3, fl⟩⟩⟩⟩
        · simp at hkf
        · simp at hkf
        · simp at hkf
        · exact ⟨_, _, _, rfl⟩
        · simp at hkf
      simp only [List.map_cons, List.map_nil, List.cons.injEq, Prod.mk.injEq, and_true] at hkf
      obtain ⟨⟨a0, oo0⟩, ⟨a1, oo1⟩, a2, oo2⟩ := hkf
      have m0 := hkg 0 j0 rfl
      have m1 := hkg 1 j1 rfl
      have m2 := hkg 2 j2 rfl
      have hkl3 : ks.length = 3 := hkl
      rw [a0, oo0, ca, List.getElem?_eq_getElem (by omega)] at m0
      rw [a1, oo1, cb, List.getElem?_eq_getElem (by omega)] at m1
      rw [a2, oo2, c8, List.getElem?_eq_getElem (by omega)] at m2
      simp only [List.drop_zero, List.take_succ_cons, List.take_zero, List.drop_succ_cons] at m0 m1 m2
      obtain ⟨x1, x2, rfl, rfl, w1, w2⟩ := open_two hta h32 c32 m0
      obtain ⟨x3, x4, rfl, rfl, w3, w4⟩ := open_two htb h16 c16 m1
      obtain ⟨x5, ex5, _, w5⟩ := DataW.trod_int h8 m2
      obtain rfl : k4 = .int .u8 x5 := by simpa using ex5
      have u1 := bounds_u32 w1
      have u2 := bounds_u32 w2
      have u3 := bounds_u16 w3
      have u4 := bounds_u16 w4
      have u5 := bounds_u8 w5
      have u0 := bounds_u8 wkd
      obtain ⟨Av, len, cap, rfl⟩ : ∃ Av len cap, vl = .slice Av len cap := by
        rcases open_slice htl g4 with ⟨hcs, _⟩ | ⟨a, l, c, mm, n', D', Pl, hcs, _⟩
        · simp at hcs; exact ⟨_, _, _, hcs⟩
        · simp at hcs; exact ⟨_, _, _, hcs⟩
      obtain ⟨rs, hrs, hro⟩ := open_rules (P := P) (w := w) (enc := enc) (n := 0) hrt htl (A := Av) (len := len) (cap := cap) (d := ys[4].1) (p := ys[4].2) ⟨_, by simpa [Value.cells] using g4⟩
      refine ⟨⟨kd.toNat, xn, kk, ⟨x1.toNat, x2.toNat, x3.toNat, x4.toNat, x5.toNat⟩, rs, .slice Av len cap⟩, ?_, ⟨by simp only; omega, bounds_i64 wxn, hkk, ⟨by simp only; omega, by simp only; omega, by simp only; omega, by simp only; omega, by simp only; omega⟩, hro⟩, hrs⟩
      simp only [List.cons.injEq, Value.int.injEq, true_and, and_true]
      refine ⟨by omega, by omega, by omega, by omega, by omega, by omega⟩
theorem open_dos {t e : TypeId} (D : DoTypes P e) (ht : P.underlying t = some (.slice e)) {A : Option Addr} {len cap : Nat} {d : DataW H} {p : List MemPlace}
    (h : DataW.Trod enc P w 0 (fun _ => true) true t (.slice A len cap) d p) : ∃ xs : List Dk, xs.length = len ∧ Das w w.heap.size (.slice A len cap) xs ∧ ∀ x ∈ xs, x.Ok := by
  have hC : P.cellsOf e = 15 := by obtain ⟨fs, fp, fk, t8, ti, tp, tk, tl, ta, tb, tr, t32, t16, hs, hf, h8, hi, hp, hone, hpz, hkb, hk, hkf, hta, htb, h32, h16, htl, hrt, ct, _⟩ := D.ty; exact ct
  obtain ⟨fuel, hf⟩ := h
  rcases open_slice ht hf with ⟨hcs, _⟩ | ⟨a, l, c, m, n', D', Pl, hcs, hb, hl, hm, hmm, _, hi⟩
  · simp [Value.cells] at hcs
    obtain ⟨rfl, rfl, rfl⟩ := hcs
    exact ⟨[], rfl, ⟨none, 0, rfl, Nat.le_refl _, by omega, fun h => absurd h (by simp), fun x hx => by cases hx⟩, fun x hx => by cases hx⟩
  · simp [Value.cells] at hcs
    obtain ⟨rfl, rfl, rfl⟩ := hcs
    simp at hmm
    subst hmm
    rw [hC] at hi
    have each : ∀ i, i < len → ∃ y : Dk, y.Ok ∧ Rds w w.heap.size y.va y.l ∧ ∀ (j : Nat) (u : Value), (doC y)[j]? = some u → w.cell? (a.add (i * 15 + j)) = some u := by
      intro i hlt
      obtain ⟨cs', hc, htr⟩ := hi i (by omega)
      obtain ⟨_, hcl, hat⟩ := World.cells?_some hc
      obtain ⟨y, hy, hok, hrd⟩ := open_fifteen D hcl htr
      refine ⟨y, hok, hrd, fun j u hu => ?_⟩
      have hj : j < 15 := (Array.getElem?_eq_some_iff.1 hu).1
      rw [← Go.Deep.add_add, hat j hj, hy, ← hu]
      simp
    have all : ∀ n, n ≤ len → ∃ xs : List Dk, xs.length = n ∧ (∀ x ∈ xs, x.Ok ∧ Rds w w.heap.size x.va x.l) ∧ ∀ (i : Nat) (x : Dk), xs[i]? = some x → ∀ (j : Nat) (u : Value), (doC x)[j]? = some u → w.cell? (a.add (i * 15 + j)) = some u := by
      intro n
      induction n with
      | zero => intro _; exact ⟨[], rfl, (fun x hx => by cases hx), (fun i x hx => by simp at hx)⟩
      | succ n ih =>
        intro hn
        obtain ⟨xs, h1, h2, h3⟩ := ih (by omega)
        obtain ⟨y, ho, hr, hc⟩ := each n (by omega)
        refine ⟨xs ++ [y], by simp [h1], fun q hq => ?_, fun i q hq => ?_⟩
        · rcases List.mem_append.1 hq with hq | hq
          · exact h2 q hq
          · rw [List.mem_singleton.1 hq]; exact ⟨ho, hr⟩
        · by_cases hj : i < xs.length
          · rw [List.getElem?_append_left hj] at hq
            exact h3 i q hq
          · have hq2 : i < (xs ++ [y]).length := (List.getElem?_eq_some_iff.1 hq).1
            have hin : i = n := by simp at hq2; omega
            subst hin
            rw [List.getElem?_append_right (by omega), h1, Nat.sub_self] at hq
            simp at hq
            subst hq
            exact hc
    obtain ⟨xs, h1, h2, h3⟩ := all len (Nat.le_refl _)
    refine ⟨xs, h1, ⟨some a, m, by rw [h1], by omega, by unfold maxLen at hm; omega, fun hn => ?_, fun x hx => (h2 x hx).2⟩, fun x hx => (h2 x hx).1⟩
    obtain ⟨b, off, sp⟩ := a
    obtain ⟨x, hx⟩ : ∃ x, xs[0]? = some x := ⟨_, List.getElem?_eq_getElem hn⟩
    have hc0 := h3 0 x hx 0 _ rfl
    obtain rfl : sp = none := by simpa [Addr.add] using World.cell?_spot hc0
    have hb0 := World.block_lt_of_cell? _ _ hc0
    refine ⟨b, off, rfl, by simpa [Addr.add] using hb0, fun i x hx j u hu => ?_⟩
    have e : ∀ j, Addr.add ⟨b, off, none⟩ j = ⟨b, off + j, none⟩ := fun j => by unfold Addr.add; split <;> simp_all
    rw [← e]
    exact h3 i x hx j u hu
end
theorem ruleTypes_ : RuleTypes Tryz.prog 62 :=
  ⟨_, _, _, 4, 5, 58, 60, 38, 3, 39, Tryz.underlying62, by kernel_rfl, Tryz.underlying4, Tryz.underlying5, Tryz.underlying58, by kernel_rfl, Tryz.underlying38, Tryz.underlying3,
    Tryz.underlying60, by kernel_rfl, Tryz.underlying39, by kernel_rfl, by kernel_rfl, by kernel_rfl, by kernel_rfl, by kernel_rfl, by kernel_rfl, by kernel_rfl, by kernel_rfl⟩
theorem doTypes : DoTypes Tryz.prog 47 :=
  ⟨_, _, _, 5, 3, 41, 45, 25, 42, 43, 62, 38, 39, Tryz.underlying47, by kernel_rfl,
    Tryz.underlying5, Tryz.underlying3, Tryz.underlying41, by kernel_rfl, by kernel_rfl, by kernel_rfl, Tryz.underlying45, by kernel_rfl, Tryz.underlying42, Tryz.underlying43, Tryz.underlying38, Tryz.underlying39,
    Tryz.underlying25, ruleTypes_, by kernel_rfl, by kernel_rfl, by kernel_rfl, by kernel_rfl, by kernel_rfl, by kernel_rfl, by kernel_rfl, by kernel_rfl, by kernel_rfl, by kernel_rfl⟩
end Au
end Go.Proofs.YtgcnhbjoalemlaaGreatDoor
/- Layer 18: the reference's Find. (Written by wip/tools/mkAulF.py.) -/
set_option linter.unusedVariables false
set_option linter.unusedSimpArgs false
set_option maxRecDepth 100000
namespace Go.Proofs.YtgcnhbjoalemlaaGreatDoor
open Go.ChangeShapes Go.WideShapes Go.ChangeAt Go.RowKit Go.Mtl Go.Lib
namespace Au
open AutM
open RulM (R)
open MatM (K)
/-- Where a flow is; -1: there is none. -/
def findV (k : Ke) (fs : List Fl) : Int := match idx k fs with
  | some i => (i : Int)
  | none => -1
theorem findV_some {k : Ke} {fs : List Fl} {i : Nat} {f : Fl} (hf : fs[i]? = some f) (hk : f.k = k) (hn : ∀ j f, j < i → fs[j]? = some f → f.k ≠ k) : findV k fs = i := by
  obtain ⟨hi, hfi⟩ := List.getElem?_eq_some_iff.1 hf
  have e : idx k fs = some i := by
    unfold idx
    rw [List.findIdx?_eq_some_iff_getElem]
    refine ⟨hi, by rw [hfi]; simpa using hk, fun j hj => ?_⟩
    have := hn j fs[j] hj (List.getElem?_eq_getElem (by omega))
    simpa using this
  unfold findV
  rw [e]
theorem findV_none {k : Ke} {fs : List Fl} (hn : ∀ j f, j < fs.length → fs[j]? = some f → f.k ≠ k) : findV k fs = -1 := by
  have e : idx k fs = none := by
    unfold idx
    rw [List.findIdx?_eq_none_iff]
    intro f hf
    obtain ⟨j, hj, rfl⟩ := List.mem_iff_getElem.1 hf
    have := hn j fs[j] hj (List.getElem?_eq_getElem hj)
    simpa using this
  unfold findV
  rw [e]
theorem Rf.cells_ {w : World} {O : Nat → Prop} {B : Nat} {z N : Int} {T : Nat → Int} {x : Int} {vr : Value} {vs : List Value} {hist : List (List R)} {fs : List Fl} {t : Nat → Int} {g n c : Nat} (H : Rf w O B z N T x vr (.slice (some ⟨g, 0, none⟩) n c) vs hist fs t) {i : Nat} {f : Fl} (hf : fs[i]? = some f) :
    w.cell? ⟨g, i * 7, none⟩ = some (.int .u32 (f.k.a : Int)) ∧ w.cell? ⟨g, i * 7 + 1, none⟩ = some (.int .u32 (f.k.b : Int)) ∧ w.cell? ⟨g, i * 7 + 2, none⟩ = some (.int .u16 (f.k.p : Int)) ∧ w.cell? ⟨g, i * 7 + 3, none⟩ = some (.int .u16 (f.k.q : Int)) ∧ w.cell? ⟨g, i * 7 + 4, none⟩ = some (.int .u8 (f.k.r : Int)) ∧
    w.cell? ⟨g, i * 7 + 5, none⟩ = some (.int .u64 (FloM.gI f.c f.n f.s)) ∧ w.cell? ⟨g, i * 7 + 6, none⟩ = some (.bool f.dn) := by
  obtain ⟨g', c', e, -, -, -, -, h⟩ := H.flow hf
  injection e with e _ _
  injection e with e
  injection e with e
  subst e
  exact h
/-- What Find keeps: the firewall, the key in its box. -/
structure FK (w : World) (O : Nat → Prop) (B : Nat) (z N : Int) (T : Nat → Int) (x : Int) (vf vr : Value) (vs : List Value) (hist : List (List R)) (fs : List Fl) (t : Nat → Int) (k : Ke) (w' : World) : Prop where
  r : Rf w' O B z N T x vr vf vs hist fs t
  k : Blk w' w.heap.size (Ky.kyc k.a k.b k.p k.q k.r) 45
  b : Below w.heap.size w w'
theorem FK.next {w w' w2 : World} {O : Nat → Prop} {B : Nat} {z N : Int} {T : Nat → Int} {x : Int} {vf vr : Value} {vs : List Value} {hist : List (List R)} {fs : List Fl} {t : Nat → Int} {k : Ke} (H : FK w O B z N T x vf vr vs hist fs t k w') (hb : Below w'.heap.size w' w2) : FK w O B z N T x vf vr vs hist fs t k w2 :=
  ⟨H.r.next hb, H.k.next hb, H.b.trans (hb.mono H.b.size)⟩
set_option maxHeartbeats 4000000 in
theorem refFind_any {w : World} {O : Nat → Prop} {B : Nat} {z N : Int} {T : Nat → Int} {x : Int} {vr vf : Value} {vs : List Value} {hist : List (List R)} {fs : List Fl} {t : Nat → Int} (H : Rf w O B z N T x vr vf vs hist fs t) (k : Ke) :
    Calls Tryz.prog 57 #[ptr B, .agg (Ky.kyc k.a k.b k.p k.q k.r)] w fun e w' => e = .returned (.int .i64 (findV k fs)) ∧ Below w.heap.size w w' := by
  obtain ⟨A, c, rfl, hnc, hcm⟩ := H.len2
  obtain ⟨n, hn⟩ : ∃ n, fs.length = n := ⟨_, rfl⟩
  rw [hn] at H hnc
  have HF0 : Hid (FK w O B z N T x (.slice A n c) vr vs hist fs t k (w.alloc (.cells (Ky.kyc k.a k.b k.p k.q k.r) 45))) := ⟨H.next (below_box _ _), Blk.box w _ _, below_box _ _⟩
  have HN := Lib.hid hn
  clear H hn
  go_enter Tryz.func57, Tryz.ntmps57
  go_wp2_with fail
  go_loopw [5] (fun vi wr => ∃ i : Nat, vi = .int .i64 (i : Int) ∧ i ≤ n ∧ Hid (FK w O B z N T x (.slice A n c) vr vs hist fs t k wr) ∧ Hid (∀ j f, j < i → fs[j]? = some f → f.k ≠ k)) (fun vi _ => n - (RowKit.intOf vi).toNat)
  case atStart => exact ⟨0, rfl, by omega, HF0, (show Hid _ from fun j f hj => absurd hj (Nat.not_lt_zero _))⟩
  case round =>
    clear HF0
    obtain ⟨i, rfl, hi, HF, HNO⟩ := hrel
    by_cases hin : i < n
    · obtain ⟨f, hf⟩ : ∃ f, fs[i]? = some f := ⟨_, List.getElem?_eq_getElem (by rw [HN.out]; exact hin)⟩
      obtain ⟨g, c', ev, -⟩ := HF.out.r.flow hf
      injection ev with ev _ _
      subst ev
      obtain ⟨fk, f_c, f_n, f_s, f_d⟩ := f
      have hFI := Lib.hid hf
      have x20 := HF.out.r.at_ 20 _ rfl
      by_cases hk : fk = k
      · have EQ : ∀ w, (Op.equalIn 10000 45 (.agg #[.int .u32 (fk.a : Int), .int .u32 (fk.b : Int), .int .u16 (fk.p : Int), .int .u16 (fk.q : Int), .int .u8 (fk.r : Int)]) (.agg #[.int .u32 (k.a : Int), .int .u32 (k.b : Int), .int .u16 (k.p : Int), .int .u16 (k.q : Int), .int .u8 (k.r : Int)])).run Tryz.prog w = .ok true w := fun w => (Ky.ky_eq _ _ _ _ _ _ _ _ _ _ w).trans (by rw [decide_eq_true (by subst hk; exact ⟨rfl, rfl, rfl, rfl, rfl⟩)])
        have HFV := Lib.hid (findV_some hf hk HNO.out)
        clear hf hk
        go_wp2_with fail
        clear x20
        refine wp_region_held_drew (S := fun w' => Hid (FK w O B z N T x (.slice (some ⟨g, 0, none⟩) n c) vr vs hist fs t k w')) (by kernel_rfl) (Lib.hid (HF.out.next (Below.refl _ _).drew)) (fun hH => ?_)
        refine wpAnyH_take (i := 0) (oi := ⟨some 15, _, _, _, _, _⟩) (v := ?v1) rfl (by kernel_rfl) (by kernel_rfl) (by kernel_rfl) (fun _ _ _ h => h) (Or.inl ⟨rfl, ?c1⟩) hH ?r1
        case c1 => (intro w' _; go_simp; (try with_reducible rfl))
        try simp only [Act.put, List.setIfInBounds_toArray, List.set_cons_zero, List.set_cons_succ]
        refine wpAnyH_take (i := 1) (oi := ⟨some 16, _, _, _, _, _⟩) (v := ?v2) rfl (by kernel_rfl) (by kernel_rfl) (by kernel_rfl) (fun _ _ _ h => h) (Or.inl ⟨rfl, ?c2⟩) hH ?r2
        case c2 => (intro w' _; go_simp; (try with_reducible rfl))
        try simp only [Act.put, List.setIfInBounds_toArray, List.set_cons_zero, List.set_cons_succ]
        refine wpAnyH_take (i := 2) (oi := ⟨some 17, _, _, _, _, _⟩) (v := ?v3) rfl (by kernel_rfl) (by kernel_rfl) (by kernel_rfl) (fun _ _ _ h => h) (Or.inl ⟨rfl, ?c3⟩) hH ?r3
        case c3 => (intro w' _; go_simp; (try with_reducible rfl))
        try simp only [Act.put, List.setIfInBounds_toArray, List.set_cons_zero, List.set_cons_succ]
        refine wpAnyH_take (i := 3) (oi := ⟨some 18, _, _, _, _, _⟩) (v := ?v4) rfl (by kernel_rfl) (by kernel_rfl) (by kernel_rfl) (fun _ _ _ h => h) (Or.inl ⟨rfl, ?c4⟩) hH ?r4
        case c4 => (intro w' hS; have x20 := hS.out.r.at_ 20 _ rfl; go_simp; (try with_reducible rfl))
        try simp only [Act.put, List.setIfInBounds_toArray, List.set_cons_zero, List.set_cons_succ]
        refine wpAnyH_take (i := 4) (oi := ⟨some 19, _, _, _, _, _⟩) (v := ?v5) rfl (by kernel_rfl) (by kernel_rfl) (by kernel_rfl) (fun _ _ _ h => h) (Or.inl ⟨rfl, ?c5⟩) hH ?r5
        case c5 => (intro w' _; go_simp; (try with_reducible rfl))
        try simp only [Act.put, List.setIfInBounds_toArray, List.set_cons_zero, List.set_cons_succ]
        refine wpAnyH_take (i := 5) (oi := ⟨some 20, _, _, _, _, _⟩) (v := ?v6) rfl (by kernel_rfl) (by kernel_rfl) (by kernel_rfl) (fun _ _ _ h => h) (Or.inl ⟨rfl, ?c6⟩) hH ?r6
        case c6 => (intro w' _; go_simp; (try with_reducible rfl))
        try simp only [Act.put, List.setIfInBounds_toArray, List.set_cons_zero, List.set_cons_succ]
        refine wpAnyH_take (i := 6) (oi := ⟨some 21, _, _, _, _, _⟩) (v := ?v7) rfl (by kernel_rfl) (by kernel_rfl) (by kernel_rfl) (fun _ _ _ h => h) (Or.inl ⟨rfl, ?c7⟩) hH ?r7
        case c7 => (intro w' _; go_simp; (try with_reducible rfl))
        try simp only [Act.put, List.setIfInBounds_toArray, List.set_cons_zero, List.set_cons_succ]
        refine wpAnyH_take (i := 7) (oi := ⟨some 22, _, _, _, _, _⟩) (v := ?v8) rfl (by kernel_rfl) (by kernel_rfl) (by kernel_rfl) (fun _ _ _ h => h) (Or.inl ⟨rfl, ?c8⟩) hH ?r8
        case c8 => (intro w' hS; obtain ⟨y0, y1, y2, y3, y4, -, -⟩ := hS.out.r.cells_ hFI.out; simp only at y0 y1 y2 y3 y4; go_simp; (try with_reducible rfl))
        try simp only [Act.put, List.setIfInBounds_toArray, List.set_cons_zero, List.set_cons_succ]
        refine wpAnyH_take (i := 8) (oi := ⟨some 23, _, _, _, _, _⟩) (v := ?v9) rfl (by kernel_rfl) (by kernel_rfl) (by kernel_rfl) (fun _ _ _ h => h) (Or.inl ⟨rfl, ?c9⟩) hH ?r9
        case c9 => (intro w' hS; obtain ⟨y0, y1, y2, y3, y4⟩ := Ky.ky_cells hS.out.k; go_simp; (try with_reducible rfl))
        try simp only [Act.put, List.setIfInBounds_toArray, List.set_cons_zero, List.set_cons_succ]
        refine wpAnyH_take (i := 9) (oi := ⟨some 24, _, _, _, _, _⟩) (v := ?v10) rfl (by kernel_rfl) (by kernel_rfl) (by kernel_rfl) (fun _ _ _ h => h) (Or.inl ⟨rfl, ?c10⟩) hH ?r10
        case c10 => (intro w' _; go_simp; (try with_reducible rfl))
        try simp only [Act.put, List.setIfInBounds_toArray, List.set_cons_zero, List.set_cons_succ]
        refine wpAnyH_done (by kernel_rfl) ?_ _
        have HB4 := Lib.hid hH.out.b
        clear hH
        go_wp2_with fail
        go_ret
        exact ⟨by rw [HFV.out]; rfl, HB4.out⟩
      · have EQ : ∀ w, (Op.equalIn 10000 45 (.agg #[.int .u32 (fk.a : Int), .int .u32 (fk.b : Int), .int .u16 (fk.p : Int), .int .u16 (fk.q : Int), .int .u8 (fk.r : Int)]) (.agg #[.int .u32 (k.a : Int), .int .u32 (k.b : Int), .int .u16 (k.p : Int), .int .u16 (k.q : Int), .int .u8 (k.r : Int)])).run Tryz.prog w = .ok false w := fun w => (Ky.ky_eq _ _ _ _ _ _ _ _ _ _ w).trans (by rw [decide_eq_false (fun h => hk (Ke.ext' ⟨by omega, by omega, by omega, by omega, by omega⟩))])
        have HNO2 : Hid (∀ j f, j < i + 1 → fs[j]? = some f → f.k ≠ k) := by
          show ∀ j f, _
          intro j f hj hfj
          by_cases e : j = i
          · subst e; rw [hf] at hfj; injection hfj with hfj; rw [← hfj]; exact hk
          · exact HNO.out j f (by omega) hfj
        clear hf hk
        go_wp2_with fail
        clear x20
        refine wp_region_held_drew (S := fun w' => Hid (FK w O B z N T x (.slice (some ⟨g, 0, none⟩) n c) vr vs hist fs t k w')) (by kernel_rfl) (Lib.hid (HF.out.next (Below.refl _ _).drew)) (fun hH => ?_)
        refine wpAnyH_take (i := 0) (oi := ⟨some 15, _, _, _, _, _⟩) (v := ?v51) rfl (by kernel_rfl) (by kernel_rfl) (by kernel_rfl) (fun _ _ _ h => h) (Or.inl ⟨rfl, ?c51⟩) hH ?r51
        case c51 => (intro w' _; go_simp; (try with_reducible rfl))
        try simp only [Act.put, List.setIfInBounds_toArray, List.set_cons_zero, List.set_cons_succ]
        refine wpAnyH_take (i := 1) (oi := ⟨some 16, _, _, _, _, _⟩) (v := ?v52) rfl (by kernel_rfl) (by kernel_rfl) (by kernel_rfl) (fun _ _ _ h => h) (Or.inl ⟨rfl, ?c52⟩) hH ?r52
        case c52 => (intro w' _; go_simp; (try with_reducible rfl))
        try simp only [Act.put, List.setIfInBounds_toArray, List.set_cons_zero, List.set_cons_succ]
        refine wpAnyH_take (i := 2) (oi := ⟨some 17, _, _, _, _, _⟩) (v := ?v53) rfl (by kernel_rfl) (by kernel_rfl) (by kernel_rfl) (fun _ _ _ h => h) (Or.inl ⟨rfl, ?c53⟩) hH ?r53
        case c53 => (intro w' _; go_simp; (try with_reducible rfl))
        try simp only [Act.put, List.setIfInBounds_toArray, List.set_cons_zero, List.set_cons_succ]
        refine wpAnyH_take (i := 3) (oi := ⟨some 18, _, _, _, _, _⟩) (v := ?v54) rfl (by kernel_rfl) (by kernel_rfl) (by kernel_rfl) (fun _ _ _ h => h) (Or.inl ⟨rfl, ?c54⟩) hH ?r54
        case c54 => (intro w' hS; have x20 := hS.out.r.at_ 20 _ rfl; go_simp; (try with_reducible rfl))
        try simp only [Act.put, List.setIfInBounds_toArray, List.set_cons_zero, List.set_cons_succ]
        refine wpAnyH_take (i := 4) (oi := ⟨some 19, _, _, _, _, _⟩) (v := ?v55) rfl (by kernel_rfl) (by kernel_rfl) (by kernel_rfl) (fun _ _ _ h => h) (Or.inl ⟨rfl, ?c55⟩) hH ?r55
        case c55 => (intro w' _; go_simp; (try with_reducible rfl))
        try simp only [Act.put, List.setIfInBounds_toArray, List.set_cons_zero, List.set_cons_succ]
        refine wpAnyH_take (i := 5) (oi := ⟨some 20, _, _, _, _, _⟩) (v := ?v56) rfl (by kernel_rfl) (by kernel_rfl) (by kernel_rfl) (fun _ _ _ h => h) (Or.inl ⟨rfl, ?c56⟩) hH ?r56
        case c56 => (intro w' _; go_simp; (try with_reducible rfl))
        try simp only [Act.put, List.setIfInBounds_toArray, List.set_cons_zero, List.set_cons_succ]
        refine wpAnyH_take (i := 6) (oi := ⟨some 21, _, _, _, _, _⟩) (v := ?v57) rfl (by kernel_rfl) (by kernel_rfl) (by kernel_rfl) (fun _ _ _ h => h) (Or.inl ⟨rfl, ?c57⟩) hH ?r57
        case c57 => (intro w' _; go_simp; (try with_reducible rfl))
        try simp only [Act.put, List.setIfInBounds_toArray, List.set_cons_zero, List.set_cons_succ]
        refine wpAnyH_take (i := 7) (oi := ⟨some 22, _, _, _, _, _⟩) (v := ?v58) rfl (by kernel_rfl) (by kernel_rfl) (by kernel_rfl) (fun _ _ _ h => h) (Or.inl ⟨rfl, ?c58⟩) hH ?r58
        case c58 => (intro w' hS; obtain ⟨y0, y1, y2, y3, y4, -, -⟩ := hS.out.r.cells_ hFI.out; simp only at y0 y1 y2 y3 y4; go_simp; (try with_reducible rfl))
        try simp only [Act.put, List.setIfInBounds_toArray, List.set_cons_zero, List.set_cons_succ]
        refine wpAnyH_take (i := 8) (oi := ⟨some 23, _, _, _, _, _⟩) (v := ?v59) rfl (by kernel_rfl) (by kernel_rfl) (by kernel_rfl) (fun _ _ _ h => h) (Or.inl ⟨rfl, ?c59⟩) hH ?r59
        case c59 => (intro w' hS; obtain ⟨y0, y1, y2, y3, y4⟩ := Ky.ky_cells hS.out.k; go_simp; (try with_reducible rfl))
        try simp only [Act.put, List.setIfInBounds_toArray, List.set_cons_zero, List.set_cons_succ]
        refine wpAnyH_take (i := 9) (oi := ⟨some 24, _, _, _, _, _⟩) (v := ?v60) rfl (by kernel_rfl) (by kernel_rfl) (by kernel_rfl) (fun _ _ _ h => h) (Or.inl ⟨rfl, ?c60⟩) hH ?r60
        case c60 => (intro w' _; go_simp; (try with_reducible rfl))
        try simp only [Act.put, List.setIfInBounds_toArray, List.set_cons_zero, List.set_cons_succ]
        refine wpAnyH_done (by kernel_rfl) ?_ _
        have HF4 := hH
        clear hH HF
        go_wp2_with fail
        go_roundw
        case rel => exact ⟨i + 1, by go_num, by omega, HF4, HNO2⟩
        case measure => simp [RowKit.intOf]; omega
    · obtain rfl : i = n := by omega
      have HFV := Lib.hid (findV_none (k := k) (fs := fs) (by rw [HN.out]; exact HNO.out))
      have x20 := HF.out.r.at_ 20 _ rfl
      have HB4 := Lib.hid HF.out.b
      clear HF
      go_wp2_with fail
      go_ret
      exact ⟨by rw [HFV.out]; rfl, HB4.out⟩
end Au
end Go.Proofs.YtgcnhbjoalemlaaGreatDoor
/- Layer 18: the reference's word, Over, Count. (Written by wip/tools/mkAulG.py.) -/
set_option linter.unusedVariables false
set_option linter.unusedSimpArgs false
set_option maxRecDepth 100000
namespace Go.Proofs.YtgcnhbjoalemlaaGreatDoor
open Go.ChangeShapes Go.WideShapes Go.ChangeAt Go.RowKit Go.Mtl Go.Lib
namespace Au
open AutM
open RulM (R)
open MatM (K)
/-- The reference's firewall and what was there before. -/
structure WQ (w0 : World) (O : Nat → Prop) (B : Nat) (z N : Int) (T : Nat → Int) (x : Int) (vr vf : Value) (vs : List Value) (hist : List (List R)) (fs : List Fl) (t : Nat → Int) (w : World) : Prop where
  r : Rf w O B z N T x vr vf vs hist fs t
  bel : Below w0.heap.size w0 w
theorem WQ.next {w0 w w' : World} {O : Nat → Prop} {B : Nat} {z N : Int} {T : Nat → Int} {x : Int} {vr vf : Value} {vs : List Value} {hist : List (List R)} {fs : List Fl} {t : Nat → Int} (H : WQ w0 O B z N T x vr vf vs hist fs t w) (hb : Below w.heap.size w w') : WQ w0 O B z N T x vr vf vs hist fs t w' := ⟨H.r.next hb, H.bel.trans (hb.mono H.bel.size)⟩
set_option maxHeartbeats 4000000 in
theorem refWord_any {w : World} {O : Nat → Prop} {B : Nat} {z N : Int} {T : Nat → Int} {c g v : Int} {vr vf : Value} {vs : List Value} {hist : List (List R)} {fs : List Fl} {t : Nat → Int} (H : Rf w O B z N T (GatM.gI c g v) vr vf vs hist fs t) (hf : GatM.Fit c g v) (htm : ∀ i, -9223372036854775808 ≤ T i ∧ T i ≤ 9223372036854775807) {a b d : Int} (hw : FloM.Fit a b d) (s : Int) :
    Calls Tryz.prog 62 #[ptr B, .int .u64 (FloM.gI a b d), .int .i64 s] w fun e w' => e = .returned (.int .u64 (FloM.gI (Fl.clip (Fs.untN T s c)) (Fl.up b) (s % 16))) ∧ Below w.heap.size w w' := by
  obtain ⟨x, hx⟩ : ∃ x, x = GatM.gI c g v := ⟨_, rfl⟩
  have HUP : Hid (∀ W, Calls Tryz.prog 32 #[.int .u64 x] W fun e w' => e = .returned (.agg (Ga.gtc v g c)) ∧ Below W.heap.size W w') := fun W => hx ▸ Ga.refUnpack_any hf W
  have HU : Hid (∀ W, Calls Tryz.prog 95 #[.agg (sx T), .int .i64 s, .int .i64 c] W fun e w' => e = .returned (.int .i64 (Fs.untN T s c)) ∧ Below W.heap.size W w') := fun W => Fs.refUntil_any (sx T) T (six htm) s c W
  generalize Fs.untN T s c = u at HU ⊢
  obtain ⟨y, hy⟩ : ∃ y, FloM.gI a b d = y := ⟨_, rfl⟩
  have HNX : Hid (∀ W, Calls Tryz.prog 61 #[.int .u64 y, .int .i64 s, .int .i64 u] W fun e w' => e = .returned (.int .u64 (FloM.gI (Fl.clip u) (Fl.up b) (s % 16))) ∧ Below W.heap.size W w') := fun W => hy ▸ Fl.refNext_any hw s u W
  generalize FloM.gI (Fl.clip u) (Fl.up b) (s % 16) = r at HNX ⊢
  rw [← hx] at H
  rw [hy]
  have HQ : Hid (WQ w O B z N T x vr vf vs hist fs t w) := ⟨H, Below.refl _ _⟩
  clear H hf htm hx hy hw
  go_enter Tryz.func62, Tryz.ntmps62
  go_wp2_with fail
  refine wp_region_held_drew (S := fun w' => WQ w O B z N T x vr vf vs hist fs t w') (by kernel_rfl) (HQ.out.next (Below.refl _ w).drew) (fun hH => ?_)
  refine wpAnyH_take (i := 0) (oi := ⟨some 7, _, _, _, _, _⟩) (v := ?v1) rfl (by kernel_rfl) (by kernel_rfl) (by kernel_rfl) (fun _ _ _ h => h) (Or.inl ⟨rfl, ?c1⟩) hH ?r1
  case c1 => (intro w' _; go_simp; (try with_reducible rfl))
  try simp only [Act.put, List.setIfInBounds_toArray, List.set_cons_zero, List.set_cons_succ]
  refine wpAnyH_take (i := 1) (oi := ⟨some 8, _, _, _, _, _⟩) (v := ?v2) rfl (by kernel_rfl) (by kernel_rfl) (by kernel_rfl) (fun _ _ _ h => h) (Or.inl ⟨rfl, ?c2⟩) hH ?r2
  case c2 => (intro w' _; go_simp; (try with_reducible rfl))
  try simp only [Act.put, List.setIfInBounds_toArray, List.set_cons_zero, List.set_cons_succ]
  refine wpAnyH_take (i := 2) (oi := ⟨some 9, _, _, _, _, _⟩) (v := ?v3) rfl (by kernel_rfl) (by kernel_rfl) (by kernel_rfl) (fun _ _ _ h => h) (Or.inl ⟨rfl, ?c3⟩) hH ?r3
  case c3 => (intro w' _; go_simp; (try with_reducible rfl))
  try simp only [Act.put, List.setIfInBounds_toArray, List.set_cons_zero, List.set_cons_succ]
  refine wpAnyH_take (i := 3) (oi := ⟨some 10, _, _, _, _, _⟩) (v := ?v4) rfl (by kernel_rfl) (by kernel_rfl) (by kernel_rfl) (fun _ _ _ h => h) (Or.inl ⟨rfl, ?c4⟩) hH ?r4
  case c4 => (intro w' _; go_simp; (try with_reducible rfl))
  try simp only [Act.put, List.setIfInBounds_toArray, List.set_cons_zero, List.set_cons_succ]
  refine wpAnyH_take (i := 4) (oi := ⟨some 11, _, _, _, _, _⟩) (v := ?v5) rfl (by kernel_rfl) (by kernel_rfl) (by kernel_rfl) (fun _ _ _ h => h) (Or.inl ⟨rfl, ?c5⟩) hH ?r5
  case c5 => (intro w' _; go_simp; (try with_reducible rfl))
  try simp only [Act.put, List.setIfInBounds_toArray, List.set_cons_zero, List.set_cons_succ]
  refine wpAnyH_take (i := 5) (oi := ⟨some 12, _, _, _, _, _⟩) (v := ?v6) rfl (by kernel_rfl) (by kernel_rfl) (by kernel_rfl) (fun _ _ _ h => h) (Or.inl ⟨rfl, ?c6⟩) hH ?r6
  case c6 => (intro w' _; go_simp; (try with_reducible rfl))
  try simp only [Act.put, List.setIfInBounds_toArray, List.set_cons_zero, List.set_cons_succ]
  refine wpAnyH_take (i := 6) (oi := ⟨some 13, _, _, _, _, _⟩) (v := ?v7) rfl (by kernel_rfl) (by kernel_rfl) (by kernel_rfl) (fun _ _ _ h => h) (Or.inl ⟨rfl, ?c7⟩) hH ?r7
  case c7 => (intro w' hS; have t0 := hS.r.at_ 2 _ rfl; have t1 := hS.r.at_ 3 _ rfl; have t2 := hS.r.at_ 4 _ rfl; have t3 := hS.r.at_ 5 _ rfl; have t4 := hS.r.at_ 6 _ rfl; have t5 := hS.r.at_ 7 _ rfl; have t6 := hS.r.at_ 8 _ rfl; have t7 := hS.r.at_ 9 _ rfl; have t8 := hS.r.at_ 10 _ rfl; have t9 := hS.r.at_ 11 _ rfl; have t10 := hS.r.at_ 12 _ rfl; have t11 := hS.r.at_ 13 _ rfl; have t12 := hS.r.at_ 14 _ rfl; have t13 := hS.r.at_ 15 _ rfl; have t14 := hS.r.at_ 16 _ rfl; have t15 := hS.r.at_ 17 _ rfl; go_simp; (try with_reducible rfl))
  try simp only [Act.put, List.setIfInBounds_toArray, List.set_cons_zero, List.set_cons_succ]
  refine wpAnyH_take (i := 7) (oi := ⟨some 14, _, _, _, _, _⟩) (v := ?v8) rfl (by kernel_rfl) (by kernel_rfl) (by kernel_rfl) (fun _ _ _ h => h) (Or.inl ⟨rfl, ?c8⟩) hH ?r8
  case c8 => (intro w' _; go_simp; (try with_reducible rfl))
  try simp only [Act.put, List.setIfInBounds_toArray, List.set_cons_zero, List.set_cons_succ]
  refine wpAnyH_take (i := 8) (oi := ⟨some 15, _, _, _, _, _⟩) (v := ?v9) rfl (by kernel_rfl) (by kernel_rfl) (by kernel_rfl) (fun _ _ _ h => h) (Or.inl ⟨rfl, ?c9⟩) hH ?r9
  case c9 => (intro w' _; go_simp; (try with_reducible rfl))
  try simp only [Act.put, List.setIfInBounds_toArray, List.set_cons_zero, List.set_cons_succ]
  refine wpAnyH_take (i := 9) (oi := ⟨some 16, _, _, _, _, _⟩) (v := ?v10) rfl (by kernel_rfl) (by kernel_rfl) (by kernel_rfl) (fun _ _ _ h => h) (Or.inl ⟨rfl, ?c10⟩) hH ?r10
  case c10 => (intro w' _; go_simp; (try with_reducible rfl))
  try simp only [Act.put, List.setIfInBounds_toArray, List.set_cons_zero, List.set_cons_succ]
  refine wpAnyH_take (i := 10) (oi := ⟨some 17, _, _, _, _, _⟩) (v := ?v11) rfl (by kernel_rfl) (by kernel_rfl) (by kernel_rfl) (fun _ _ _ h => h) (Or.inl ⟨rfl, ?c11⟩) hH ?r11
  case c11 => (intro w' _; go_simp; (try with_reducible rfl))
  try simp only [Act.put, List.setIfInBounds_toArray, List.set_cons_zero, List.set_cons_succ]
  refine wpAnyH_take (i := 11) (oi := ⟨some 18, _, _, _, _, _⟩) (v := ?v12) rfl (by kernel_rfl) (by kernel_rfl) (by kernel_rfl) (fun _ _ _ h => h) (Or.inl ⟨rfl, ?c12⟩) hH ?r12
  case c12 => (intro w' hS; have x18 := hS.r.at_ 18 _ rfl; go_simp; (try with_reducible rfl))
  try simp only [Act.put, List.setIfInBounds_toArray, List.set_cons_zero, List.set_cons_succ]
  refine wpAnyH_ready (rs := [12]) (by kernel_rfl) (by simp) (AllReadyH.cons rfl (fun K hK => ?_) (AllReadyH.nil))
  go_simp
  go_at_call 32
  refine (HUP.out _).mono ?_
  rintro e w1 ⟨rfl, hbp⟩
  refine hK.out _ _ (hH.next hbp) (fun hH => ?_)
  clear hK K
  clear hbp
  try simp only [Act.put, List.setIfInBounds_toArray, List.set_cons_zero, List.set_cons_succ]
  refine wpAnyH_take (i := 13) (oi := ⟨some 20, _, _, _, _, _⟩) (v := ?v13) rfl (by kernel_rfl) (by kernel_rfl) (by kernel_rfl) (fun _ _ _ h => h) (Or.inl ⟨rfl, ?c13⟩) hH ?r13
  case c13 => (intro w' hS; go_simp; rw [Ga.field2]; simp only [Result.andThen_ok]; (try with_reducible rfl))
  try simp only [Act.put, List.setIfInBounds_toArray, List.set_cons_zero, List.set_cons_succ]
  refine wpAnyH_ready (rs := [14]) (by kernel_rfl) (by simp) (AllReadyH.cons rfl (fun K hK => ?_) (AllReadyH.nil))
  go_simp
  go_at_call 95
  refine (HU.out _).mono ?_
  rintro e w2 ⟨rfl, hbp⟩
  refine hK.out _ _ (hH.next hbp) (fun hH => ?_)
  clear hK K
  clear hbp
  try simp only [Act.put, List.setIfInBounds_toArray, List.set_cons_zero, List.set_cons_succ]
  refine wpAnyH_ready (rs := [15]) (by kernel_rfl) (by simp) (AllReadyH.cons rfl (fun K hK => ?_) (AllReadyH.nil))
  go_simp
  go_at_call 61
  refine (HNX.out _).mono ?_
  rintro e w3 ⟨rfl, hbp⟩
  refine hK.out _ _ (hH.next hbp) (fun hH => ?_)
  clear hK K
  clear hbp
  try simp only [Act.put, List.setIfInBounds_toArray, List.set_cons_zero, List.set_cons_succ]
  refine wpAnyH_take (i := 16) (oi := ⟨some 6, _, _, _, _, _⟩) (v := ?v14) rfl (by kernel_rfl) (by kernel_rfl) (by kernel_rfl) (fun _ _ _ h => h) (Or.inl ⟨rfl, ?c14⟩) hH ?r14
  case c14 => (intro w' _; go_simp; (try with_reducible rfl))
  try simp only [Act.put, List.setIfInBounds_toArray, List.set_cons_zero, List.set_cons_succ]
  refine wpAnyH_done (by kernel_rfl) ?_ _
  have HB3 := Lib.hid hH.bel
  clear hH
  go_wp2_with fail
  go_ret
  exact ⟨rfl, HB3.out⟩
/-- Where it is. -/
theorem findV_of {fs : List Fl} (h : Oks fs) {k : Ke} {f : Fl} (hf : find k fs = some f) : ∃ i : Nat, fs[i]? = some f ∧ findV k fs = i := by
  obtain ⟨xs, ys, e, hi, -⟩ := h.split hf
  have h2 : (xs ++ f :: ys)[xs.length]? = some f := by simp
  rw [← e] at h2
  refine ⟨xs.length, h2, ?_⟩
  unfold findV
  rw [hi]
set_option maxHeartbeats 4000000 in
theorem refOver_no {w : World} {O : Nat → Prop} {B : Nat} {z N : Int} {T : Nat → Int} {c g v : Int} {vr vf : Value} {vs : List Value} {hist : List (List R)} {fs : List Fl} {t : Nat → Int} {x : Int} (H : Rf w O B z N T x vr vf vs hist fs t) (k : Ke) (hk : find k fs = none) :
    Calls Tryz.prog 55 #[ptr B, kyV k] w fun e w' => e = .returned (.bool false) ∧ Below w.heap.size w w' := by
  have HX := Lib.hid (Blk.box w (Ky.kyc k.a k.b k.p k.q k.r) 45)
  have HB0 := Lib.hid (below_box w (.cells (Ky.kyc k.a k.b k.p k.q k.r) 45))
  have HFD : Hid (∀ W, Below w.heap.size w W → Calls Tryz.prog 57 #[ptr B, .agg (Ky.kyc k.a k.b k.p k.q k.r)] W fun e w' => e = .returned (.int .i64 (-1)) ∧ Below W.heap.size W w') := fun W h => by
    have h1 := refFind_any (H.next h) k
    have e : findV k fs = -1 := findV_none fun j f _ hf => find_none hk f (List.mem_of_getElem? hf)
    rw [e] at h1
    exact h1
  obtain ⟨x0, x1, x2, x3, x4⟩ := Ky.ky_cells HX.out
  clear H hk
  go_enter Tryz.func55, Tryz.ntmps55
  go_wp2_with fail
  clear x0 x1 x2 x3 x4
  go_at_call 57
  refine (HFD.out _ HB0.out).mono ?_
  rintro e w1 ⟨rfl, hb⟩
  have HB1 := Lib.hid (HB0.out.trans (hb.mono HB0.out.size))
  clear hb HB0 HX
  go_wp2_with fail
  refine wp_region_held_drew (S := fun w' => Hid (Below w.heap.size w w')) (by kernel_rfl) (Lib.hid (HB1.out.drew)) (fun hH => ?_)
  refine wpAnyH_take (i := 0) (oi := ⟨some 9, _, _, _, _, _⟩) (v := ?v101) rfl (by kernel_rfl) (by kernel_rfl) (by kernel_rfl) (fun _ _ _ h => h) (Or.inl ⟨rfl, ?c101⟩) hH ?r101
  case c101 => (intro w' _; go_simp; (try with_reducible rfl))
  try simp only [Act.put, List.setIfInBounds_toArray, List.set_cons_zero, List.set_cons_succ]
  refine wpAnyH_take (i := 1) (oi := ⟨some 10, _, _, _, _, _⟩) (v := ?v102) rfl (by kernel_rfl) (by kernel_rfl) (by kernel_rfl) (fun _ _ _ h => h) (Or.inl ⟨rfl, ?c102⟩) hH ?r102
  case c102 => (intro w' _; go_simp; (try with_reducible rfl))
  try simp only [Act.put, List.setIfInBounds_toArray, List.set_cons_zero, List.set_cons_succ]
  refine wpAnyH_take (i := 2) (oi := ⟨some 11, _, _, _, _, _⟩) (v := ?v103) rfl (by kernel_rfl) (by kernel_rfl) (by kernel_rfl) (fun _ _ _ h => h) (Or.inl ⟨rfl, ?c103⟩) hH ?r103
  case c103 => (intro w' _; go_simp; (try with_reducible rfl))
  try simp only [Act.put, List.setIfInBounds_toArray, List.set_cons_zero, List.set_cons_succ]
  refine wpAnyH_take (i := 3) (oi := ⟨some 12, _, _, _, _, _⟩) (v := undef) rfl (by kernel_rfl) (by kernel_rfl) (by kernel_rfl) (fun _ _ _ h => h) (Or.inr ⟨rfl, rfl⟩) hH ?_
  try simp only [Act.put, List.setIfInBounds_toArray, List.set_cons_zero, List.set_cons_succ]
  refine wpAnyH_take (i := 4) (oi := ⟨some 13, _, _, _, _, _⟩) (v := undef) rfl (by kernel_rfl) (by kernel_rfl) (by kernel_rfl) (fun _ _ _ h => h) (Or.inr ⟨rfl, rfl⟩) hH ?_
  try simp only [Act.put, List.setIfInBounds_toArray, List.set_cons_zero, List.set_cons_succ]
  refine wpAnyH_take (i := 5) (oi := ⟨some 14, _, _, _, _, _⟩) (v := undef) rfl (by kernel_rfl) (by kernel_rfl) (by kernel_rfl) (fun _ _ _ h => h) (Or.inr ⟨rfl, rfl⟩) hH ?_
  try simp only [Act.put, List.setIfInBounds_toArray, List.set_cons_zero, List.set_cons_succ]
  refine wpAnyH_take (i := 6) (oi := ⟨some 15, _, _, _, _, _⟩) (v := undef) rfl (by kernel_rfl) (by kernel_rfl) (by kernel_rfl) (fun _ _ _ h => h) (Or.inr ⟨rfl, rfl⟩) hH ?_
  try simp only [Act.put, List.setIfInBounds_toArray, List.set_cons_zero, List.set_cons_succ]
  refine wpAnyH_take (i := 7) (oi := ⟨some 16, _, _, _, _, _⟩) (v := undef) rfl (by kernel_rfl) (by kernel_rfl) (by kernel_rfl) (fun _ _ _ h => h) (Or.inr ⟨rfl, rfl⟩) hH ?_
  try simp only [Act.put, List.setIfInBounds_toArray, List.set_cons_zero, List.set_cons_succ]
  refine wpAnyH_take (i := 8) (oi := ⟨some 17, _, _, _, _, _⟩) (v := undef) rfl (by kernel_rfl) (by kernel_rfl) (by kernel_rfl) (fun _ _ _ h => h) (Or.inr ⟨rfl, rfl⟩) hH ?_
  try simp only [Act.put, List.setIfInBounds_toArray, List.set_cons_zero, List.set_cons_succ]
  refine wpAnyH_take (i := 9) (oi := ⟨some 18, _, _, _, _, _⟩) (v := undef) rfl (by kernel_rfl) (by kernel_rfl) (by kernel_rfl) (fun _ _ _ h => h) (Or.inr ⟨rfl, rfl⟩) hH ?_
  try simp only [Act.put, List.setIfInBounds_toArray, List.set_cons_zero, List.set_cons_succ]
  refine wpAnyH_take (i := 10) (oi := ⟨some 19, _, _, _, _, _⟩) (v := undef) rfl (by kernel_rfl) (by kernel_rfl) (by kernel_rfl) (fun _ _ _ h => h) (Or.inr ⟨rfl, rfl⟩) hH ?_
  try simp only [Act.put, List.setIfInBounds_toArray, List.set_cons_zero, List.set_cons_succ]
  refine wpAnyH_take (i := 11) (oi := ⟨some 20, _, _, _, _, _⟩) (v := undef) rfl (by kernel_rfl) (by kernel_rfl) (by kernel_rfl) (fun _ _ _ h => h) (Or.inr ⟨rfl, rfl⟩) hH ?_
  try simp only [Act.put, List.setIfInBounds_toArray, List.set_cons_zero, List.set_cons_succ]
  refine wpAnyH_take (i := 12) (oi := ⟨some 21, _, _, _, _, _⟩) (v := undef) rfl (by kernel_rfl) (by kernel_rfl) (by kernel_rfl) (fun _ _ _ h => h) (Or.inr ⟨rfl, rfl⟩) hH ?_
  try simp only [Act.put, List.setIfInBounds_toArray, List.set_cons_zero, List.set_cons_succ]
  refine wpAnyH_take (i := 13) (oi := ⟨some 22, _, _, _, _, _⟩) (v := undef) rfl (by kernel_rfl) (by kernel_rfl) (by kernel_rfl) (fun _ _ _ h => h) (Or.inr ⟨rfl, rfl⟩) hH ?_
  try simp only [Act.put, List.setIfInBounds_toArray, List.set_cons_zero, List.set_cons_succ]
  refine wpAnyH_take (i := 14) (oi := ⟨some 23, _, _, _, _, _⟩) (v := undef) rfl (by kernel_rfl) (by kernel_rfl) (by kernel_rfl) (fun _ _ _ h => h) (Or.inr ⟨rfl, rfl⟩) hH ?_
  try simp only [Act.put, List.setIfInBounds_toArray, List.set_cons_zero, List.set_cons_succ]
  refine wpAnyH_take (i := 15) (oi := ⟨some 24, _, _, _, _, _⟩) (v := undef) rfl (by kernel_rfl) (by kernel_rfl) (by kernel_rfl) (fun _ _ _ h => h) (Or.inr ⟨rfl, rfl⟩) hH ?_
  try simp only [Act.put, List.setIfInBounds_toArray, List.set_cons_zero, List.set_cons_succ]
  refine wpAnyH_take (i := 16) (oi := ⟨some 25, _, _, _, _, _⟩) (v := undef) rfl (by kernel_rfl) (by kernel_rfl) (by kernel_rfl) (fun _ _ _ h => h) (Or.inr ⟨rfl, rfl⟩) hH ?_
  try simp only [Act.put, List.setIfInBounds_toArray, List.set_cons_zero, List.set_cons_succ]
  refine wpAnyH_take (i := 17) (oi := ⟨some 26, _, _, _, _, _⟩) (v := undef) rfl (by kernel_rfl) (by kernel_rfl) (by kernel_rfl) (fun _ _ _ h => h) (Or.inr ⟨rfl, rfl⟩) hH ?_
  try simp only [Act.put, List.setIfInBounds_toArray, List.set_cons_zero, List.set_cons_succ]
  refine wpAnyH_take (i := 18) (oi := ⟨some 27, _, _, _, _, _⟩) (v := ?v119) rfl (by kernel_rfl) (by kernel_rfl) (by kernel_rfl) (fun _ _ _ h => h) (Or.inl ⟨rfl, ?c119⟩) hH ?r119
  case c119 => (intro w' _; go_simp; (try with_reducible rfl))
  try simp only [Act.put, List.setIfInBounds_toArray, List.set_cons_zero, List.set_cons_succ]
  refine wpAnyH_take (i := 19) (oi := ⟨some 4, _, _, _, _, _⟩) (v := ?v120) rfl (by kernel_rfl) (by kernel_rfl) (by kernel_rfl) (fun _ _ _ h => h) (Or.inl ⟨rfl, ?c120⟩) hH ?r120
  case c120 => (intro w' _; go_simp; (try with_reducible rfl))
  try simp only [Act.put, List.setIfInBounds_toArray, List.set_cons_zero, List.set_cons_succ]
  refine wpAnyH_done (by kernel_rfl) ?_ _
  have HB3 := Lib.hid hH.out
  clear hH
  go_wp2_with fail
  go_ret
  exact ⟨rfl, HB3.out⟩
set_option maxHeartbeats 4000000 in
theorem refOver_yes {w : World} {O : Nat → Prop} {B : Nat} {z N : Int} {T : Nat → Int} {c g v : Int} {vr vf : Value} {vs : List Value} {hist : List (List R)} {fs : List Fl} {t : Nat → Int} (H : Rf w O B z N T (GatM.gI c g v) vr vf vs hist fs t) (hf : GatM.Fit c g v) (ok : Oks fs) (k : Ke) (f : Fl) (hk : find k fs = some f) :
    Calls Tryz.prog 55 #[ptr B, kyV k] w fun e w' => e = .returned (.bool (Fl.overB f.c f.n f.s c)) ∧ Below w.heap.size w w' := by
  obtain ⟨i, hi, e1⟩ := findV_of ok hk
  obtain ⟨gf, cc, rfl, hnc, hcm, -⟩ := H.flow hi
  have hil := (List.getElem?_eq_some_iff.1 hi).1
  obtain ⟨n, hn⟩ : ∃ n, fs.length = n := ⟨_, rfl⟩
  rw [hn] at H hnc hil
  obtain ⟨x, hx⟩ : ∃ x, x = GatM.gI c g v := ⟨_, rfl⟩
  have HUP : Hid (∀ W, Calls Tryz.prog 32 #[.int .u64 x] W fun e w' => e = .returned (.agg (Ga.gtc v g c)) ∧ Below W.heap.size W w') := fun W => hx ▸ Ga.refUnpack_any hf W
  have hfo := (ok.ok f (List.mem_of_getElem? hi)).fit
  obtain ⟨fk, f_c, f_n, f_s, f_d⟩ := f
  obtain ⟨y, hy⟩ : ∃ y, FloM.gI f_c f_n f_s = y := ⟨_, rfl⟩
  have HOV : Hid (∀ W, Calls Tryz.prog 91 #[.int .u64 y, .int .i64 c] W fun e w' => e = .returned (.bool (Fl.overB f_c f_n f_s c)) ∧ Below W.heap.size W w') := fun W => hy ▸ Fl.refOver_any hfo c W
  show Calls _ _ _ _ fun e w' => e = .returned (.bool (Fl.overB f_c f_n f_s c)) ∧ _
  generalize Fl.overB f_c f_n f_s c = ov at HOV ⊢
  have HY := Lib.hid hy
  rw [← hx] at H
  have HFI : Hid (fs[i]? = some { k := fk, c := f_c, n := f_n, s := f_s, dn := f_d }) := hi
  have HX := Lib.hid (Blk.box w (Ky.kyc k.a k.b k.p k.q k.r) 45)
  have HQ : Hid (WQ w O B z N T x vr (.slice (some ⟨gf, 0, none⟩) n cc) vs hist fs t (w.alloc (.cells (Ky.kyc k.a k.b k.p k.q k.r) 45))) := ⟨H.next (below_box _ _), below_box _ _⟩
  have HFD : Hid (∀ W, WQ w O B z N T x vr (.slice (some ⟨gf, 0, none⟩) n cc) vs hist fs t W → Calls Tryz.prog 57 #[ptr B, .agg (Ky.kyc k.a k.b k.p k.q k.r)] W fun e w' => e = .returned (.int .i64 (i : Int)) ∧ Below W.heap.size W w') := fun W h => by
    have h1 := refFind_any h.r k
    rw [e1] at h1
    exact h1
  obtain ⟨x0, x1, x2, x3, x4⟩ := Ky.ky_cells HX.out
  clear H hk hx hf ok hi hn hy hfo e1
  go_enter Tryz.func55, Tryz.ntmps55
  go_wp2_with fail
  clear x0 x1 x2 x3 x4
  go_at_call 57
  refine (HFD.out _ HQ.out).mono ?_
  rintro e w1 ⟨rfl, hb⟩
  have HQ1 := Lib.hid (HQ.out.next hb)
  clear hb HQ HX
  go_wp2_with fail
  refine wp_region_held_drew (S := fun w' => Hid (WQ w O B z N T x vr (.slice (some ⟨gf, 0, none⟩) n cc) vs hist fs t w')) (by kernel_rfl) (Lib.hid (HQ1.out.next (Below.refl _ _).drew)) (fun hH => ?_)
  refine wpAnyH_take (i := 0) (oi := ⟨some 9, _, _, _, _, _⟩) (v := ?v51) rfl (by kernel_rfl) (by kernel_rfl) (by kernel_rfl) (fun _ _ _ h => h) (Or.inl ⟨rfl, ?c51⟩) hH ?r51
  case c51 => (intro w' _; go_simp; (try with_reducible rfl))
  try simp only [Act.put, List.setIfInBounds_toArray, List.set_cons_zero, List.set_cons_succ]
  refine wpAnyH_take (i := 1) (oi := ⟨some 10, _, _, _, _, _⟩) (v := ?v52) rfl (by kernel_rfl) (by kernel_rfl) (by kernel_rfl) (fun _ _ _ h => h) (Or.inl ⟨rfl, ?c52⟩) hH ?r52
  case c52 => (intro w' _; go_simp; (try with_reducible rfl))
  try simp only [Act.put, List.setIfInBounds_toArray, List.set_cons_zero, List.set_cons_succ]
  refine wpAnyH_take (i := 2) (oi := ⟨some 11, _, _, _, _, _⟩) (v := ?v53) rfl (by kernel_rfl) (by kernel_rfl) (by kernel_rfl) (fun _ _ _ h => h) (Or.inl ⟨rfl, ?c53⟩) hH ?r53
  case c53 => (intro w' _; go_simp; (try with_reducible rfl))
  try simp only [Act.put, List.setIfInBounds_toArray, List.set_cons_zero, List.set_cons_succ]
  refine wpAnyH_take (i := 3) (oi := ⟨some 12, _, _, _, _, _⟩) (v := ?v54) rfl (by kernel_rfl) (by kernel_rfl) (by kernel_rfl) (fun _ _ _ h => h) (Or.inl ⟨rfl, ?c54⟩) hH ?r54
  case c54 => (intro w' _; go_simp; (try with_reducible rfl))
  try simp only [Act.put, List.setIfInBounds_toArray, List.set_cons_zero, List.set_cons_succ]
  refine wpAnyH_take (i := 4) (oi := ⟨some 13, _, _, _, _, _⟩) (v := ?v55) rfl (by kernel_rfl) (by kernel_rfl) (by kernel_rfl) (fun _ _ _ h => h) (Or.inl ⟨rfl, ?c55⟩) hH ?r55
  case c55 => (intro w' _; go_simp; (try with_reducible rfl))
  try simp only [Act.put, List.setIfInBounds_toArray, List.set_cons_zero, List.set_cons_succ]
  refine wpAnyH_take (i := 5) (oi := ⟨some 14, _, _, _, _, _⟩) (v := ?v56) rfl (by kernel_rfl) (by kernel_rfl) (by kernel_rfl) (fun _ _ _ h => h) (Or.inl ⟨rfl, ?c56⟩) hH ?r56
  case c56 => (intro w' _; go_simp; (try with_reducible rfl))
  try simp only [Act.put, List.setIfInBounds_toArray, List.set_cons_zero, List.set_cons_succ]
  refine wpAnyH_take (i := 6) (oi := ⟨some 15, _, _, _, _, _⟩) (v := ?v57) rfl (by kernel_rfl) (by kernel_rfl) (by kernel_rfl) (fun _ _ _ h => h) (Or.inl ⟨rfl, ?c57⟩) hH ?r57
  case c57 => (intro w' hS; have x20 := hS.out.r.at_ 20 _ rfl; go_simp; (try with_reducible rfl))
  try simp only [Act.put, List.setIfInBounds_toArray, List.set_cons_zero, List.set_cons_succ]
  refine wpAnyH_take (i := 7) (oi := ⟨some 16, _, _, _, _, _⟩) (v := ?v58) rfl (by kernel_rfl) (by kernel_rfl) (by kernel_rfl) (fun _ _ _ h => h) (Or.inl ⟨rfl, ?c58⟩) hH ?r58
  case c58 => (intro w' _; go_simp; (try with_reducible rfl))
  try simp only [Act.put, List.setIfInBounds_toArray, List.set_cons_zero, List.set_cons_succ]
  refine wpAnyH_take (i := 8) (oi := ⟨some 17, _, _, _, _, _⟩) (v := ?v59) rfl (by kernel_rfl) (by kernel_rfl) (by kernel_rfl) (fun _ _ _ h => h) (Or.inl ⟨rfl, ?c59⟩) hH ?r59
  case c59 => (intro w' _; go_simp; (try with_reducible rfl))
  try simp only [Act.put, List.setIfInBounds_toArray, List.set_cons_zero, List.set_cons_succ]
  refine wpAnyH_take (i := 9) (oi := ⟨some 18, _, _, _, _, _⟩) (v := ?v60) rfl (by kernel_rfl) (by kernel_rfl) (by kernel_rfl) (fun _ _ _ h => h) (Or.inl ⟨rfl, ?c60⟩) hH ?r60
  case c60 => (intro w' _; go_simp; (try with_reducible rfl))
  try simp only [Act.put, List.setIfInBounds_toArray, List.set_cons_zero, List.set_cons_succ]
  refine wpAnyH_take (i := 10) (oi := ⟨some 19, _, _, _, _, _⟩) (v := ?v61) rfl (by kernel_rfl) (by kernel_rfl) (by kernel_rfl) (fun _ _ _ h => h) (Or.inl ⟨rfl, ?c61⟩) hH ?r61
  case c61 => (intro w' hS; obtain ⟨-, -, -, -, -, y5, -⟩ := hS.out.r.cells_ HFI.out; simp only at y5; rw [HY.out] at y5; go_simp; (try with_reducible rfl))
  try simp only [Act.put, List.setIfInBounds_toArray, List.set_cons_zero, List.set_cons_succ]
  refine wpAnyH_take (i := 11) (oi := ⟨some 20, _, _, _, _, _⟩) (v := ?v62) rfl (by kernel_rfl) (by kernel_rfl) (by kernel_rfl) (fun _ _ _ h => h) (Or.inl ⟨rfl, ?c62⟩) hH ?r62
  case c62 => (intro w' _; go_simp; (try with_reducible rfl))
  try simp only [Act.put, List.setIfInBounds_toArray, List.set_cons_zero, List.set_cons_succ]
  refine wpAnyH_take (i := 12) (oi := ⟨some 21, _, _, _, _, _⟩) (v := ?v63) rfl (by kernel_rfl) (by kernel_rfl) (by kernel_rfl) (fun _ _ _ h => h) (Or.inl ⟨rfl, ?c63⟩) hH ?r63
  case c63 => (intro w' _; go_simp; (try with_reducible rfl))
  try simp only [Act.put, List.setIfInBounds_toArray, List.set_cons_zero, List.set_cons_succ]
  refine wpAnyH_take (i := 13) (oi := ⟨some 22, _, _, _, _, _⟩) (v := ?v64) rfl (by kernel_rfl) (by kernel_rfl) (by kernel_rfl) (fun _ _ _ h => h) (Or.inl ⟨rfl, ?c64⟩) hH ?r64
  case c64 => (intro w' _; go_simp; (try with_reducible rfl))
  try simp only [Act.put, List.setIfInBounds_toArray, List.set_cons_zero, List.set_cons_succ]
  refine wpAnyH_take (i := 14) (oi := ⟨some 23, _, _, _, _, _⟩) (v := ?v65) rfl (by kernel_rfl) (by kernel_rfl) (by kernel_rfl) (fun _ _ _ h => h) (Or.inl ⟨rfl, ?c65⟩) hH ?r65
  case c65 => (intro w' hS; have x18 := hS.out.r.at_ 18 _ rfl; go_simp; (try with_reducible rfl))
  try simp only [Act.put, List.setIfInBounds_toArray, List.set_cons_zero, List.set_cons_succ]
  refine wpAnyH_ready (rs := [15]) (by kernel_rfl) (by simp) (AllReadyH.cons rfl (fun K hK => ?_) (AllReadyH.nil))
  go_simp
  go_at_call 32
  refine (HUP.out _).mono ?_
  rintro e w1 ⟨rfl, hbp⟩
  refine hK.out _ _ (Lib.hid (hH.out.next hbp)) (fun hH => ?_)
  clear hK K
  clear hbp
  try simp only [Act.put, List.setIfInBounds_toArray, List.set_cons_zero, List.set_cons_succ]
  refine wpAnyH_take (i := 16) (oi := ⟨some 25, _, _, _, _, _⟩) (v := ?v66) rfl (by kernel_rfl) (by kernel_rfl) (by kernel_rfl) (fun _ _ _ h => h) (Or.inl ⟨rfl, ?c66⟩) hH ?r66
  case c66 => (intro w' hS; go_simp; rw [Ga.field2]; simp only [Result.andThen_ok]; (try with_reducible rfl))
  try simp only [Act.put, List.setIfInBounds_toArray, List.set_cons_zero, List.set_cons_succ]
  refine wpAnyH_ready (rs := [17]) (by kernel_rfl) (by simp) (AllReadyH.cons rfl (fun K hK => ?_) (AllReadyH.nil))
  go_simp
  go_at_call 91
  refine (HOV.out _).mono ?_
  rintro e w2 ⟨rfl, hbp⟩
  refine hK.out _ _ (Lib.hid (hH.out.next hbp)) (fun hH => ?_)
  clear hK K
  clear hbp
  try simp only [Act.put, List.setIfInBounds_toArray, List.set_cons_zero, List.set_cons_succ]
  refine wpAnyH_take (i := 18) (oi := ⟨some 27, _, _, _, _, _⟩) (v := ?v67) rfl (by kernel_rfl) (by kernel_rfl) (by kernel_rfl) (fun _ _ _ h => h) (Or.inl ⟨rfl, ?c67⟩) hH ?r67
  case c67 => (intro w' _; go_simp; (try with_reducible rfl))
  try simp only [Act.put, List.setIfInBounds_toArray, List.set_cons_zero, List.set_cons_succ]
  refine wpAnyH_take (i := 19) (oi := ⟨some 4, _, _, _, _, _⟩) (v := ?v68) rfl (by kernel_rfl) (by kernel_rfl) (by kernel_rfl) (fun _ _ _ h => h) (Or.inl ⟨rfl, ?c68⟩) hH ?r68
  case c68 => (intro w' _; go_simp; (try with_reducible rfl))
  try simp only [Act.put, List.setIfInBounds_toArray, List.set_cons_zero, List.set_cons_succ]
  refine wpAnyH_done (by kernel_rfl) ?_ _
  have HB3 := Lib.hid hH.out.bel
  clear hH
  go_wp2_with fail
  go_ret
  exact ⟨rfl, HB3.out⟩
theorem refOver_q {w : World} {O : Nat → Prop} {B : Nat} {z N : Int} {T : Nat → Int} {s : St} (H : QAt w O B z N T s) (k : Ke) :
    Calls Tryz.prog 55 #[ptr B, kyV k] w fun e w' => e = .returned (.bool (delB s k)) ∧ Below w.heap.size w w' := by
  obtain ⟨⟨vr, vf, vs, hist, h1, -⟩, hi, -⟩ := H
  unfold delB
  cases hf : find k s.fs with
  | none => exact refOver_no (c := 0) (g := 0) (v := 0) h1 k hf
  | some f => exact refOver_yes h1 hi.fit hi.oks k f hf
end Au
end Go.Proofs.YtgcnhbjoalemlaaGreatDoor
/- Layer 18: the reference's Drop and Delete. (Written by wip/tools/mkAulH.py.) -/
set_option linter.unusedVariables false
set_option linter.unusedSimpArgs false
set_option maxRecDepth 100000
namespace Go.Proofs.YtgcnhbjoalemlaaGreatDoor
open Go.ChangeShapes Go.WideShapes Go.ChangeAt Go.RowKit Go.Mtl Go.Lib
namespace Au
open AutM
open RulM (R)
open MatM (K)
theorem row_cells {w : World} {base e size n c : Nat} {A : Option Addr} {xs : List Value} (h : w.ownsRow base e size (.slice A n c) n xs) : 0 < n → ∃ b, A = some ⟨b, 0, none⟩ ∧ b < w.heap.size ∧ ∀ j u, xs[j]? = some u → w.cell? ⟨b, j, none⟩ = some u := by
  intro hn
  rcases h.2 with ⟨_, h0⟩ | ⟨b, cap, cur, e1, _, h3, _⟩
  · omega
  · injection e1 with e1 _ _
    subst e1
    refine ⟨b, rfl, (Array.getElem?_eq_some_iff.1 h3).1, fun j u hu => ?_⟩
    have := h.cells (g := b) rfl j u hu
    have e : (Addr.add ⟨b, 0, none⟩ j) = ⟨b, j, none⟩ := by unfold Addr.add; split <;> simp_all
    rwa [e] at this
/-- The first elements of a row, as a slice; those from a place on. -/
theorem row_take {w : World} {base e size n c : Nat} {A : Option Addr} {xs : List Value} (h : w.ownsRow base e size (.slice A n c) n xs) {i : Nat} (hi : i ≤ n) : Rd w w.heap.size size i (.slice A i c) (xs.take (i * size)) := by
  obtain ⟨A', c', e, h1, h2⟩ := row_form h
  injection e with e1 _ e3
  subst e1 e3
  refine ⟨A, c, rfl, by omega, h2, ?_, fun hp => ?_⟩
  · rw [List.length_take, h.1, Nat.min_eq_left (Nat.mul_le_mul hi (Nat.le_refl _))]
  · obtain ⟨b, rfl, hb, hc⟩ := row_cells h (by omega)
    refine ⟨b, 0, rfl, hb, fun j u hu => ?_⟩
    rw [Nat.zero_add]
    refine hc j u ?_
    rw [List.getElem?_take] at hu
    split at hu
    · exact hu
    · cases hu
theorem row_drop {w : World} {base e size n c : Nat} {A : Option Addr} {xs : List Value} (h : w.ownsRow base e size (.slice A n c) n xs) {i : Nat} (hi : i ≤ n) {A' : Option Addr} (hA : 0 < n - i → ∀ b, A = some ⟨b, 0, none⟩ → A' = some ⟨b, i * size, none⟩) : Rd w w.heap.size size (n - i) (.slice A' (n - i) (c - i)) (xs.drop (i * size)) := by
  obtain ⟨A'', c', e, h1, h2⟩ := row_form h
  injection e with e1 _ e3
  subst e1 e3
  refine ⟨A', c - i, rfl, by omega, by omega, ?_, fun hp => ?_⟩
  · rw [List.length_drop, h.1, Nat.sub_mul]
  · obtain ⟨b, e1, hb, hc⟩ := row_cells h (by omega)
    refine ⟨b, i * size, hA hp b e1, hb, fun j u hu => hc _ u ?_⟩
    rwa [List.getElem?_drop] at hu
theorem flow_info : (Tryz.prog.info? 90).map (fun i => (i.zero, i.size, i.bytes)) = some (some (.agg #[.int .u32 0, .int .u32 0, .int .u16 0, .int .u16 0, .int .u8 0, .int .u64 0, .bool false]), 7, 32) := by kernel_rfl
theorem lit7 (w : World) : ((w.alloc (.cells #[] 90)).drew).ownsRow w.heap.size 90 7 (.slice (some ⟨w.heap.size, 0, none⟩) 0 0) 0 [] :=
  row_keep (World.ownsRow_made w #[] 0 (Nat.le_refl _) (by unfold maxLen; omega) (by simp)) (fun _ _ => rfl)
theorem drop_at {fs : List Fl} (h : Oks fs) {k : Ke} {f : Fl} (hk : find k fs = some f) {i : Nat} (hi : fs[i]? = some f) : fs.take i ++ fs.drop (i + 1) = drop k fs := by
  obtain ⟨xs, ys, e, hx, hd, -⟩ := h.split hk
  have hl : i = xs.length := by
    have h2 : fs[xs.length]? = some f := by rw [e]; simp
    obtain ⟨a1, b1⟩ := List.getElem?_eq_some_iff.1 hi
    obtain ⟨a2, b2⟩ := List.getElem?_eq_some_iff.1 h2
    have hs := h.srt
    unfold Srt at hs
    rcases Nat.lt_trichotomy i xs.length with c | c | c
    · have := List.pairwise_iff_getElem.1 hs i xs.length a1 a2 c
      rw [b1, b2] at this; omega
    · exact c
    · have := List.pairwise_iff_getElem.1 hs xs.length i a2 a1 c
      rw [b1, b2] at this; omega
  rw [hd, hl, e]
  simp
set_option maxHeartbeats 4000000 in
theorem refDrop_no {w : World} {O : Nat → Prop} {B : Nat} {z N : Int} {T : Nat → Int} {c g v : Int} {vr vf : Value} {vs : List Value} {hist : List (List R)} {fs : List Fl} {t : Nat → Int} {x : Int} (H : Rf w O B z N T x vr vf vs hist fs t) (k : Ke) (hk : find k fs = none) :
    Calls Tryz.prog 29 #[ptr B, kyV k] w fun e w' => e = .returned (.bool false) ∧ Below w.heap.size w w' := by
  have HX := Lib.hid (Blk.box w (Ky.kyc k.a k.b k.p k.q k.r) 45)
  have HB0 := Lib.hid (below_box w (.cells (Ky.kyc k.a k.b k.p k.q k.r) 45))
  have HFD : Hid (∀ W, Below w.heap.size w W → Calls Tryz.prog 57 #[ptr B, .agg (Ky.kyc k.a k.b k.p k.q k.r)] W fun e w' => e = .returned (.int .i64 (-1)) ∧ Below W.heap.size W w') := fun W h => by
    have h1 := refFind_any (H.next h) k
    have e : findV k fs = -1 := findV_none fun j f _ hf => find_none hk f (List.mem_of_getElem? hf)
    rw [e] at h1
    exact h1
  obtain ⟨x0, x1, x2, x3, x4⟩ := Ky.ky_cells HX.out
  clear H hk
  go_enter Tryz.func29, Tryz.ntmps29
  go_wp2_with fail
  clear x0 x1 x2 x3 x4
  go_at_call 57
  refine (HFD.out _ HB0.out).mono ?_
  rintro e w1 ⟨rfl, hb⟩
  have HB1 := Lib.hid (HB0.out.trans (hb.mono HB0.out.size))
  clear hb HB0 HX
  go_wp2_with fail
  go_ret
  exact ⟨rfl, HB1.out⟩
set_option maxHeartbeats 4000000 in
theorem refDrop_yes {w : World} {O : Nat → Prop} {B : Nat} {z N : Int} {T : Nat → Int} {c g v : Int} {vr vf : Value} {vs : List Value} {hist : List (List R)} {fs : List Fl} {t : Nat → Int} (H : Rf w O B z N T (GatM.gI c g v) vr vf vs hist fs t) (he : Env w) (hf : GatM.Fit c g v) (hg : g ≠ 0) (ok : Oks fs) (h4 : fs.length ≤ 4095) (k : Ke) (f : Fl) (hk : find k fs = some f) :
    Calls Tryz.prog 29 #[ptr B, kyV k] w fun e w' => ∃ vf' O', e = .returned (.bool true) ∧ Rf w' O' B z N T (GatM.gI c (g - 1) v) vr vf' vs hist (drop k fs) t ∧ Only O w w' ∧ ∀ j, O' j → O j ∨ w.heap.size ≤ j := by
  obtain ⟨i, hi, e1⟩ := findV_of ok hk
  obtain ⟨gf, cc, rfl, hnc, hcm, -⟩ := H.flow hi
  have hil := (List.getElem?_eq_some_iff.1 hi).1
  have hdr : fs.take i ++ fs.drop (i + 1) = drop k fs := drop_at ok hk hi
  obtain ⟨n, hn⟩ : ∃ n, fs.length = n := ⟨_, rfl⟩
  rw [hn] at H hnc hil h4
  obtain ⟨fs2, hfs2⟩ : ∃ q, drop k fs = q := ⟨_, rfl⟩
  rw [hfs2] at hdr ⊢
  obtain ⟨m, hm⟩ : ∃ m, fs2.length = m := ⟨_, rfl⟩
  have HM : Hid (i + (n - (i + 1)) = m) := by
    show _ = _
    rw [← hm, ← hdr, List.length_append, List.length_take, List.length_drop, hn]; omega
  have HML : Hid (m ≤ 1000000000000) := by show _ ≤ _; have := HM.out; omega
  have HIL : Hid (i ≤ 1000000000000) := by show _ ≤ _; omega
  have HFS : Hid (([] ++ fvs (fs.take i)) ++ fvs (fs.drop (i + 1)) = fvs fs2) := by show _ = _; rw [List.nil_append, ← fvs_append, hdr]
  have HLM := Lib.hid hm
  obtain ⟨x, hx⟩ : ∃ x, x = GatM.gI c g v := ⟨_, rfl⟩
  obtain ⟨x', hx'⟩ : ∃ x, x = GatM.gI c (g - 1) v := ⟨_, rfl⟩
  have HLV : Hid (∀ W, Calls Tryz.prog 58 #[.int .u64 x] W fun e w' => e = .returned (.tuple #[.int .u64 x', .bool true]) ∧ Below W.heap.size W w') := fun W => by
    rw [hx, hx']
    exact Ga.refLeave_any hf (.inl ⟨rfl, rfl, hg⟩) W
  rw [← hx] at H
  rw [← hx']
  have HE := Lib.hid he
  have HX := Lib.hid (Blk.box w (Ky.kyc k.a k.b k.p k.q k.r) 45)
  have HQ : Hid (WQ w O B z N T x vr (.slice (some ⟨gf, 0, none⟩) n cc) vs hist fs t (w.alloc (.cells (Ky.kyc k.a k.b k.p k.q k.r) 45))) := ⟨H.next (below_box _ _), below_box _ _⟩
  have HFD : Hid (∀ W, WQ w O B z N T x vr (.slice (some ⟨gf, 0, none⟩) n cc) vs hist fs t W → Calls Tryz.prog 57 #[ptr B, .agg (Ky.kyc k.a k.b k.p k.q k.r)] W fun e w' => e = .returned (.int .i64 (i : Int)) ∧ Below W.heap.size W w') := fun W h => by
    have h1 := refFind_any h.r k
    rw [e1] at h1
    exact h1
  have HN := Lib.hid hn
  have hi2 : (i : Int) < 4095 := by omega
  have hic : i ≤ cc := by omega
  have hic1 : i + 1 ≤ n := by omega
  have HW1 : Hid (IntKind.i64.wrap ((i : Int) + 1) = ((i + 1 : Nat) : Int)) := (IntWalk.i64_in _ (by omega)).trans (by omega)
  obtain ⟨x0, x1, x2, x3, x4⟩ := Ky.ky_cells HX.out
  clear H hk hx hx' hf ok hi hn e1 he hfs2 hdr hm
  go_enter Tryz.func29, Tryz.ntmps29
  go_wp2_with fail
  clear x0 x1 x2 x3 x4
  go_at_call 57
  refine (HFD.out _ HQ.out).mono ?_
  rintro e w1 ⟨rfl, hb⟩
  have HQ1 := Lib.hid (HQ.out.next hb)
  clear hb HQ HX HFD
  have HT : Hid (∀ W, Below w1.heap.size w1 W → Rd W W.heap.size 7 i (.slice (some ⟨gf, 0, none⟩) i cc) (fvs (fs.take i))) := fun W h => by
    rw [fvs_take]
    have h2 := (HQ1.out.r.next h).fr
    rw [HN.out] at h2
    exact row_take h2 (by omega)
  have HD : Hid (∀ W, Below w1.heap.size w1 W → Rd W W.heap.size 7 (n - (i + 1)) (.slice (if cc = i + 1 then some ⟨gf, 0, none⟩ else some ⟨gf, (i + 1) * 7, none⟩) (n - (i + 1)) (cc - (i + 1))) (fvs (fs.drop (i + 1)))) := fun W h => by
    rw [fvs_drop]
    have h2 := (HQ1.out.r.next h).fr
    rw [HN.out] at h2
    refine row_drop h2 (by omega) fun hp b e => ?_
    injection e with e
    injection e with e
    subst e
    rw [if_neg (by omega)]
  have HIC : Hid (0 ≤ (i : Int) + 1 ∧ (i : Int) + 1 ≤ (n : Int)) := ⟨by omega, by omega⟩
  go_wp2_with fail
  refine region_e (S := fun w' => Hid (Below w1.heap.size w1 w')) 19 (by kernel_rfl) (Lib.hid (Below.refl w1.heap.size w1).drew) (fun hH => ?_)
  refine anyE_take (i := 0) (oi := ⟨some 11, _, _, _, _, _⟩) (v := ?v1) rfl (by kernel_rfl) (by kernel_rfl) (by kernel_rfl) (by kernel_rfl) (fun _ _ _ h => h) (Or.inl ⟨rfl, ?c1⟩) hH ?r1
  case c1 => (intro w' _; go_simp; (try with_reducible rfl))
  try simp only [Act.put, List.setIfInBounds_toArray, List.set_cons_zero, List.set_cons_succ]
  refine anyE_take (i := 2) (oi := ⟨some 13, _, _, _, _, _⟩) (v := ?v2) rfl (by kernel_rfl) (by kernel_rfl) (by kernel_rfl) (by kernel_rfl) (fun _ _ _ h => h) (Or.inl ⟨rfl, ?c2⟩) hH ?r2
  case c2 => (intro w' _; go_simp; (try with_reducible rfl))
  try simp only [Act.put, List.setIfInBounds_toArray, List.set_cons_zero, List.set_cons_succ]
  refine anyE_take (i := 3) (oi := ⟨some 14, _, _, _, _, _⟩) (v := ?v3) rfl (by kernel_rfl) (by kernel_rfl) (by kernel_rfl) (by kernel_rfl) (fun _ _ _ h => h) (Or.inl ⟨rfl, ?c3⟩) hH ?r3
  case c3 => (intro w' _; go_simp; (try with_reducible rfl))
  try simp only [Act.put, List.setIfInBounds_toArray, List.set_cons_zero, List.set_cons_succ]
  refine anyE_take (i := 4) (oi := ⟨some 15, _, _, _, _, _⟩) (v := ?v4) rfl (by kernel_rfl) (by kernel_rfl) (by kernel_rfl) (by kernel_rfl) (fun _ _ _ h => h) (Or.inl ⟨rfl, ?c4⟩) hH ?r4
  case c4 => (intro w' _; go_simp; (try with_reducible rfl))
  try simp only [Act.put, List.setIfInBounds_toArray, List.set_cons_zero, List.set_cons_succ]
  refine anyE_take (i := 5) (oi := ⟨some 16, _, _, _, _, _⟩) (v := ?v5) rfl (by kernel_rfl) (by kernel_rfl) (by kernel_rfl) (by kernel_rfl) (fun _ _ _ h => h) (Or.inl ⟨rfl, ?c5⟩) hH ?r5
  case c5 => (intro w' hS; have x20 := (HQ1.out.r.next hS.out).at_ 20 _ rfl; go_simp; (try with_reducible rfl))
  try simp only [Act.put, List.setIfInBounds_toArray, List.set_cons_zero, List.set_cons_succ]
  refine anyE_take (i := 6) (oi := ⟨some 17, _, _, _, _, _⟩) (v := ?v6) rfl (by kernel_rfl) (by kernel_rfl) (by kernel_rfl) (by kernel_rfl) (fun _ _ _ h => h) (Or.inl ⟨rfl, ?c6⟩) hH ?r6
  case c6 => (intro w' _; go_simp; (try with_reducible rfl))
  try simp only [Act.put, List.setIfInBounds_toArray, List.set_cons_zero, List.set_cons_succ]
  refine anyE_take (i := 7) (oi := ⟨some 18, _, _, _, _, _⟩) (v := ?v7) rfl (by kernel_rfl) (by kernel_rfl) (by kernel_rfl) (by kernel_rfl) (fun _ _ _ h => h) (Or.inl ⟨rfl, ?c7⟩) hH ?r7
  case c7 => (intro w' _; go_simp; (try with_reducible rfl))
  try simp only [Act.put, List.setIfInBounds_toArray, List.set_cons_zero, List.set_cons_succ]
  refine anyE_take (i := 9) (oi := ⟨some 20, _, _, _, _, _⟩) (v := ?v8) rfl (by kernel_rfl) (by kernel_rfl) (by kernel_rfl) (by kernel_rfl) (fun _ _ _ h => h) (Or.inl ⟨rfl, ?c8⟩) hH ?r8
  case c8 => (intro w' _; go_simp; (try with_reducible rfl))
  try simp only [Act.put, List.setIfInBounds_toArray, List.set_cons_zero, List.set_cons_succ]
  refine anyE_take (i := 10) (oi := ⟨some 21, _, _, _, _, _⟩) (v := ?v9) rfl (by kernel_rfl) (by kernel_rfl) (by kernel_rfl) (by kernel_rfl) (fun _ _ _ h => h) (Or.inl ⟨rfl, ?c9⟩) hH ?r9
  case c9 => (intro w' _; go_simp; (try with_reducible rfl))
  try simp only [Act.put, List.setIfInBounds_toArray, List.set_cons_zero, List.set_cons_succ]
  refine anyE_take (i := 11) (oi := ⟨some 22, _, _, _, _, _⟩) (v := ?v10) rfl (by kernel_rfl) (by kernel_rfl) (by kernel_rfl) (by kernel_rfl) (fun _ _ _ h => h) (Or.inl ⟨rfl, ?c10⟩) hH ?r10
  case c10 => (intro w' _; go_simp; (try with_reducible rfl))
  try simp only [Act.put, List.setIfInBounds_toArray, List.set_cons_zero, List.set_cons_succ]
  refine anyE_take (i := 12) (oi := ⟨some 23, _, _, _, _, _⟩) (v := ?v11) rfl (by kernel_rfl) (by kernel_rfl) (by kernel_rfl) (by kernel_rfl) (fun _ _ _ h => h) (Or.inl ⟨rfl, ?c11⟩) hH ?r11
  case c11 => (intro w' hS; have x20 := (HQ1.out.r.next hS.out).at_ 20 _ rfl; go_simp; (try with_reducible rfl))
  try simp only [Act.put, List.setIfInBounds_toArray, List.set_cons_zero, List.set_cons_succ]
  refine anyE_take (i := 13) (oi := ⟨some 24, _, _, _, _, _⟩) (v := ?v12) rfl (by kernel_rfl) (by kernel_rfl) (by kernel_rfl) (by kernel_rfl) (fun _ _ _ h => h) (Or.inl ⟨rfl, ?c12⟩) hH ?r12
  case c12 => (intro w' _; go_simp; (try with_reducible rfl))
  try simp only [Act.put, List.setIfInBounds_toArray, List.set_cons_zero, List.set_cons_succ]
  refine anyE_take (i := 14) (oi := ⟨some 25, _, _, _, _, _⟩) (v := ?v13) rfl (by kernel_rfl) (by kernel_rfl) (by kernel_rfl) (by kernel_rfl) (fun _ _ _ h => h) (Or.inl ⟨rfl, ?c13⟩) hH ?r13
  case c13 => (intro w' _; go_simp; rw [HW1.out]; (try with_reducible rfl))
  try simp only [Act.put, List.setIfInBounds_toArray, List.set_cons_zero, List.set_cons_succ]
  refine anyE_take (i := 15) (oi := ⟨some 26, _, _, _, _, _⟩) (v := ?v14) rfl (by kernel_rfl) (by kernel_rfl) (by kernel_rfl) (by kernel_rfl) (fun _ _ _ h => h) (Or.inl ⟨rfl, ?c14⟩) hH ?r14
  case c14 => (intro w' _; go_simp; rw [if_pos HIC.out]; (try with_reducible rfl))
  try simp only [Act.put, List.setIfInBounds_toArray, List.set_cons_zero, List.set_cons_succ]
  refine anyE_ready (rs := [1]) (by kernel_rfl) (by simp) (AllE.cons rfl (fun K hK => ?_) (AllE.nil))
  go_simp
  refine hK.out _ _ (Lib.hid ((Below.refl w1.heap.size w1).alloc (Nat.le_refl _) _).drew) (fun hH => ?_)
  clear hK K
  have HO : Hid (((w1.alloc (.cells #[] 90)).drew).ownsRow w1.heap.size 90 7 (.slice (some ⟨w1.heap.size, 0, none⟩) 0 0) 0 []) := lit7 w1
  generalize (w1.alloc (.cells #[] 90)).drew = w10 at hH HO ⊢
  try simp only [Act.put, List.setIfInBounds_toArray, List.set_cons_zero, List.set_cons_succ]
  refine anyE_ready (rs := [8]) (by kernel_rfl) (by simp) (AllE.cons rfl (fun K hK => ?_) (AllE.nil))
  refine step_append_rd rfl (.tmp 12) (.tmp 18) 68 90 rfl Tryz.underlying68 _ 7 32 flow_info rfl (by omega) (by omega) w1 hH.out _ 0 [] rfl HO.out _ i _ (fvs (fs.take i)) rfl (HT.out _ hH.out) (fvs_one _) i (by omega) HIL.out ?_
  intro A2 c2 w11 ho11 hb11 hg11
  change K (Act.put _ (some 19) _) _
  refine hK.out _ _ (hb11) (fun hH => ?_)
  clear hK K
  clear HO hg11 hb11
  try simp only [Act.put, List.setIfInBounds_toArray, List.set_cons_zero, List.set_cons_succ]
  refine anyE_ready (rs := [16]) (by kernel_rfl) (by simp) (AllE.cons rfl (fun K hK => ?_) (AllE.nil))
  refine step_append_rd rfl (.tmp 19) (.tmp 26) 68 90 rfl Tryz.underlying68 _ 7 32 flow_info rfl (by omega) (by omega) w1 hH.out _ i ([] ++ fvs (fs.take i)) rfl ho11.out _ (n - (i + 1)) _ (fvs (fs.drop (i + 1))) rfl (HD.out _ hH.out) (fvs_one _) m HM.out HML.out ?_
  intro A3 c3 w12 ho12 hb12 hg12
  change K (Act.put _ (some 27) _) _
  refine hK.out _ _ (hb12) (fun hH => ?_)
  clear hK K
  clear ho11 hg12 hb12
  try simp only [Act.put, List.setIfInBounds_toArray, List.set_cons_zero, List.set_cons_succ]
  refine anyE_ready (rs := [17]) (by kernel_rfl) (by simp) (AllE.cons rfl (fun K hK => ?_) (AllE.nil))
  go_simp
  refine hK.out _ _ (hH) (fun hH => ?_)
  clear hK K
  try simp only [Act.put, List.setIfInBounds_toArray, List.set_cons_zero, List.set_cons_succ]
  refine anyE_take (i := 18) (oi := ⟨some 29, _, _, _, _, _⟩) (v := ?v15) rfl (by kernel_rfl) (by kernel_rfl) (by kernel_rfl) (by kernel_rfl) (fun _ _ _ h => h) (Or.inl ⟨rfl, ?c15⟩) hH ?r15
  case c15 => (intro w' _; go_simp; (try with_reducible rfl))
  try simp only [Act.put, List.setIfInBounds_toArray, List.set_cons_zero, List.set_cons_succ]
  refine anyE_ready (rs := [19]) (by kernel_rfl) (by simp) (AllE.end_ rfl (fun K hK => ?_))
  have x20 := (HQ1.out.r.next hH.out).at_ 20 _ rfl
  have f20 := (HQ1.out.r.next hH.out).blk.frozen 20
  go_simp
  clear x20 f20
  refine hK.out _ _ ?_
  clear hK K
  have HR12 : Hid (w12.ownsRow w1.heap.size 90 7 (.slice A3 m c3) m (fvs fs2)) := by
    show World.ownsRow _ _ _ _ _ _ _
    rw [← HFS.out]
    exact ho12.out
  clear ho12
  try simp only [Act.put, List.setIfInBounds_toArray, List.set_cons_zero, List.set_cons_succ]
  refine anyE_done (by kernel_rfl) ?_ _
  obtain ⟨hR, hO⟩ := HQ1.out.r.flows hH.out (fs' := fs2) (vf' := .slice A3 m c3) (by rw [HLM.out]; exact HR12.out) (fun j hj => Env.new (HE.out.below HQ1.out.bel) hj)
  have HR13 := Lib.hid hR
  have HO13 := Lib.hid hO
  have HOS : Hid (∀ j, (O j ∨ (w1.heap.size ≤ j ∧ j < w12.heap.size)) → O j ∨ w.heap.size ≤ j) := fun j hj => hj.imp id (fun h => Nat.le_trans HQ1.out.bel.size h.1)
  have HOB : Hid (O B) := HQ1.out.r.ob
  obtain ⟨O2, hO2⟩ : ∃ q : Nat → Prop, (fun j => O j ∨ (w1.heap.size ≤ j ∧ j < w12.heap.size)) = q := ⟨_, rfl⟩
  rw [hO2] at HR13
  have HOS2 : Hid (∀ j, O2 j → O j ∨ w.heap.size ≤ j) := by rw [← hO2]; exact HOS
  obtain ⟨w13, hw13⟩ : ∃ q, w12.setCell ⟨B, 20, none⟩ (.slice A3 m c3) = q := ⟨_, rfl⟩
  rw [hw13] at HR13 HO13 ⊢
  have HOA : Hid (Only O w w13) := (Only.of_below HQ1.out.bel : Only O w w1).trans HO13.out (fun j e => .inl e)
  clear hR hO hw13 hH HR12 HQ1 HO13 HOS hO2 HT HD
  generalize (if cc = i + 1 then some (⟨gf, 0, none⟩ : Addr) else some ⟨gf, (i + 1) * 7, none⟩) = av
  have x18 := HR13.out.at_ 18 _ rfl
  go_wp2_with fail
  go_at_call 58
  refine (HLV.out _).mono ?_
  rintro e w14 ⟨rfl, hb⟩
  have HR14 := Lib.hid (HR13.out.next hb)
  have HO14 := Lib.hid (HOA.out.next hb)
  clear x18 hb HR13
  have x18 := HR14.out.at_ 18 _ rfl
  have f18 := HR14.out.blk.frozen 18
  go_wp2_with fail
  go_ret
  exact ⟨_, _, rfl, HR14.out.word _, HO14.out.setCell (.inl HOB.out) _, HOS2.out⟩
theorem refDrop_q {w : World} {O : Nat → Prop} {B : Nat} {z N : Int} {T : Nat → Int} {s : St} (H : QAt w O B z N T s) (he : Env w) (k : Ke) :
    Calls Tryz.prog 29 #[ptr B, kyV k] w fun e w' => ∃ O' : Nat → Prop, e = .returned (.bool (find k s.fs).isSome) ∧ QAt w' O' B z N T (dropS s k) ∧ Only O w w' ∧ ∀ j, O' j → O j ∨ w.heap.size ≤ j := by
  have hd := H.2.1.drop k
  obtain ⟨⟨vr, vf, vs, hist, h1, h2⟩, hi, h3⟩ := H
  unfold dropS at hd ⊢
  cases hf : find k s.fs with
  | none =>
    rw [hf] at hd
    exact (refDrop_no (c := 0) (g := 0) (v := 0) h1 k hf).mono fun e w' ⟨a, b⟩ => ⟨O, a, ⟨⟨vr, vf, vs, hist, h1.next b, h2⟩, hd, h3⟩, Only.of_below b, fun _ h => .inl h⟩
  | some f =>
    rw [hf] at hd
    have hc := hi.cnt
    have h4 := hi.cap
    have h5 := hi.cap1
    have hm := (List.length_pos_of_mem (find_some hf).1)
    exact (refDrop_yes h1 he hi.fit (by omega) hi.oks (by omega) k f hf).mono fun e w' ⟨vf', O', a, b, c, d⟩ => ⟨O', a, ⟨⟨vr, vf', vs, hist, b, h2⟩, hd, h3⟩, c, d⟩
set_option maxHeartbeats 1000000 in
theorem refDelete_q {w : World} {O : Nat → Prop} {B : Nat} {z N : Int} {T : Nat → Int} {s : St} (H : QAt w O B z N T s) (he : Env w) (k : Ke) :
    Calls Tryz.prog 27 #[ptr B, kyV k] w fun e w' => ∃ O' : Nat → Prop, e = .returned (.bool (delB s k)) ∧ QAt w' O' B z N T (delS s k) ∧ Only O w w' ∧ ∀ j, O' j → O j ∨ w.heap.size ≤ j := by
  have HX := Lib.hid (Blk.box w (Ky.kyc k.a k.b k.p k.q k.r) 45)
  have HB0 := Lib.hid (below_box w (.cells (Ky.kyc k.a k.b k.p k.q k.r) 45))
  have HQ := Lib.hid (H.next HB0.out)
  have HE := Lib.hid (he.below HB0.out)
  have HSM : Hid (delB s k = true → (find k s.fs).isSome = true) := fun h => by
    unfold delB at h
    cases hf : find k s.fs with
    | none => rw [hf] at h; cases h
    | some f => rfl
  obtain ⟨x0, x1, x2, x3, x4⟩ := Ky.ky_cells HX.out
  clear H he
  go_enter Tryz.func27, Tryz.ntmps27
  go_wp2_with fail
  clear x0 x1 x2 x3 x4
  go_at_call 55
  refine (refOver_q HQ.out k).mono ?_
  rintro e w1 ⟨rfl, hb⟩
  have HQ1 := Lib.hid (HQ.out.next hb)
  have HE1 := Lib.hid (HE.out.below hb)
  have HX1 := Lib.hid (HX.out.next hb)
  have HB1 := Lib.hid (HB0.out.trans (hb.mono HB0.out.size))
  clear hb HQ HE HX HB0
  obtain ⟨x0, x1, x2, x3, x4⟩ := Ky.ky_cells HX1.out
  have HD1 : Hid (delB s k = true → delS s k = dropS s k) := fun h => by unfold delS; rw [h]; rfl
  have HD2 : Hid (delB s k = false → delS s k = s) := fun h => by unfold delS; rw [h]; rfl
  cases hd : delB s k with
  | true =>
    have HFS := Lib.hid (HSM.out hd)
    have HS2 := Lib.hid (HD1.out hd)
    have HDB := Lib.hid hd
    clear hd HSM HD1 HD2
    go_wp2_with fail
    clear x0 x1 x2 x3 x4
    go_at_call 29
    refine (refDrop_q HQ1.out HE1.out k).mono ?_
    rw [HFS.out]
    rintro e w2 ⟨O', rfl, hq, ho, hO⟩
    have HQ2 := Lib.hid hq
    have HO2 := Lib.hid ((Only.of_below HB1.out : Only O w w1).trans ho (fun j e => .inl e))
    have HOS : Hid (∀ j, O' j → O j ∨ w.heap.size ≤ j) := fun j hj => (hO j hj).imp id (fun h => Nat.le_trans HB1.out.size h)
    clear hq ho hO HQ1 HE1 HX1
    go_wp2_with fail
    go_ret
    exact ⟨O', by rw [HDB.out]; rfl, by rw [HS2.out]; exact HQ2.out, HO2.out, HOS.out⟩
  | false =>
    have HS2 := Lib.hid (HD2.out hd)
    have HDB := Lib.hid hd
    clear hd HSM HD1 HD2
    go_wp2_with fail
    go_ret
    exact ⟨O, by rw [HDB.out]; rfl, by rw [HS2.out]; exact HQ1.out, Only.of_below HB1.out, fun _ h => .inl h⟩
end Au
end Go.Proofs.YtgcnhbjoalemlaaGreatDoor
/- Layer 18: the reference's Act at a flow that is there. (Written by wip/tools/mkAulI.py.) -/
set_option linter.unusedVariables false
set_option linter.unusedSimpArgs false
set_option maxRecDepth 100000
namespace Go.Proofs.YtgcnhbjoalemlaaGreatDoor
open Go.ChangeShapes Go.WideShapes Go.ChangeAt Go.RowKit Go.Mtl Go.Lib
namespace Au
open AutM
open RulM (R)
open MatM (K)
/-- A packet's key, by the reference. -/
theorem refOf_key (p : K) (hp : p.Ok) (W : World) : Calls Tryz.prog 59 #[.agg (Ma.pK p)] W fun e w' => e = .returned (.tuple #[kyV (keyP p), .bool (dnP p)]) ∧ Below W.heap.size W w' := by
  have hr : keyP p = if dnP p then ⟨p.ds, p.sr, p.dp, p.sp, p.pr⟩ else ⟨p.sr, p.ds, p.sp, p.dp, p.pr⟩ := rfl
  cases hd : dnP p with
  | true =>
    rw [hd, if_pos rfl] at hr
    rw [hr]
    exact Ky.refOf_any p.pr p.sr p.ds p.sp p.dp p.fl p.kd hp.sr hp.ds hp.sp hp.dp p.ds p.sr p.dp p.sp true hd (.inl ⟨rfl, rfl, rfl, rfl, rfl⟩) W
  | false =>
    rw [hd, if_neg (by simp)] at hr
    rw [hr]
    exact Ky.refOf_any p.pr p.sr p.ds p.sp p.dp p.fl p.kd hp.sr hp.ds hp.sp hp.dp p.sr p.ds p.sp p.dp false hd (.inr ⟨rfl, rfl, rfl, rfl, rfl⟩) W
theorem fvs_set : ∀ (fs : List Fl) (i : Nat) (f g : Fl), fs[i]? = some f → g.k = f.k → g.dn = f.dn → fvs (fs.set i g) = (fvs fs).set (i * 7 + 5) (.int .u64 (FloM.gI g.c g.n g.s)) := by
  intro fs
  induction fs with
  | nil => intro i f g h; simp at h
  | cons a fs ih =>
    intro i f g h hk hd
    have e : ∀ (b : Fl) (l : List Fl), fvs (b :: l) = f7 b ++ fvs l := fun _ _ => rfl
    cases i with
    | zero =>
      simp at h
      subst h
      rw [List.set_cons_zero, e, e, List.set_append, if_pos (by simp [f7])]
      congr 1
      simp [f7, hk, hd]
    | succ i =>
      rw [List.set_cons_succ, e, e, ih i f g (by simpa using h) hk hd, List.set_append, if_neg (by simp [f7]; omega)]
      congr 2
      simp [f7]; omega
theorem put_set {fs : List Fl} (h : Oks fs) {k : Ke} {f g : Fl} (hf : find k fs = some f) (hg : g.k = k) {i : Nat} (hi : fs[i]? = some f) : put g fs = fs.set i g := by
  obtain ⟨xs, ys, e, hx, hd, hp, -⟩ := h.split hf
  have hl : i = xs.length := by
    have h2 : fs[xs.length]? = some f := by rw [e]; simp
    obtain ⟨a1, b1⟩ := List.getElem?_eq_some_iff.1 hi
    obtain ⟨a2, b2⟩ := List.getElem?_eq_some_iff.1 h2
    have hs := h.srt
    unfold Srt at hs
    rcases Nat.lt_trichotomy i xs.length with c | c | c
    · have := List.pairwise_iff_getElem.1 hs i xs.length a1 a2 c
      rw [b1, b2] at this; omega
    · exact c
    · have := List.pairwise_iff_getElem.1 hs xs.length i a2 a1 c
      rw [b1, b2] at this; omega
  rw [hp g hg, hl, e]
  simp
section
variable {w w' : World} {O O' : Nat → Prop} {B : Nat} {z N : Int} {T : Nat → Int} {x : Int} {vr vf : Value} {vs : List Value} {hist : List (List R)} {fs : List Fl} {t : Nat → Int}
/-- A flow's word stored anew. -/
theorem Rf.put {g n c : Nat} (H : Rf w O B z N T x vr (.slice (some ⟨g, 0, none⟩) n c) vs hist fs t) {i : Nat} {f f' : Fl} (hf : fs[i]? = some f) (hk : f'.k = f.k) (hd : f'.dn = f.dn) (hn : fs.length = n) :
    Rf (w.setCell ⟨g, i * 7 + 5, none⟩ (.int .u64 (FloM.gI f'.c f'.n f'.s))) O B z N T x vr (.slice (some ⟨g, 0, none⟩) n c) vs hist (fs.set i f') t ∧ Only O w (w.setCell ⟨g, i * 7 + 5, none⟩ (.int .u64 (FloM.gI f'.c f'.n f'.s))) := by
  subst hn
  obtain ⟨ho, hgB, hrg, hvg⟩ := H.fo g rfl
  have hu := fvs_at fs i f hf 5 (by omega)
  have h1 := H.fr.stored (i * 7 + 5) (.int .u64 (FloM.gI f'.c f'.n f'.s))
  have hsz : (w.setCell ⟨g, i * 7 + 5, none⟩ (.int .u64 (FloM.gI f'.c f'.n f'.s))).heap.size = w.heap.size := by simp [World.setCell]
  refine ⟨⟨?_, ?_, row_keep H.rr fun b e => Below.heap_setCell _ _ _ _ (fun e2 => hrg (by rw [e]; exact congrArg some e2)), fun j v rl hv hr => rds_block (H.rd j v rl hv hr) (by rw [hsz]; exact Nat.le_refl _) fun b e => Below.heap_setCell _ _ _ _ (fun e2 => hvg v (List.mem_of_getElem? hv) (by rw [e]; exact congrArg some e2)), H.vl, H.fo, H.ro, H.vo, H.ob, ?_, H.hi⟩, (Only.refl O w).setCell (.inl ho) _⟩
  · exact H.blk.keep (Below.heap_setCell _ _ _ _ (fun e => hgB e.symm))
  · rw [fvs_set fs i f f' hf hk hd, List.length_set]
    exact h1.1
  · intro j hj
    rw [hsz]
    exact H.lt j hj
end
/-- What Act keeps: the firewall, the packet, the key. -/
structure AK (w : World) (O O1 : Nat → Prop) (B : Nat) (z N : Int) (T : Nat → Int) (x : Int) (vr vf : Value) (vs : List Value) (hist : List (List R)) (fs : List Fl) (t : Nat → Int) (p : K) (k : Ke) (gk : Nat) (W : World) : Prop where
  r : Rf W O1 B z N T x vr vf vs hist fs t
  p : Blk W w.heap.size (Ma.pK p) 41
  k : Blk W gk (Ky.kyc k.a k.b k.p k.q k.r) 45
  on : Only O w W
theorem AK.next {w W W' : World} {O O1 : Nat → Prop} {B : Nat} {z N : Int} {T : Nat → Int} {x : Int} {vr vf : Value} {vs : List Value} {hist : List (List R)} {fs : List Fl} {t : Nat → Int} {p : K} {k : Ke} {gk : Nat} (H : AK w O O1 B z N T x vr vf vs hist fs t p k gk W) (hb : Below W.heap.size W W') : AK w O O1 B z N T x vr vf vs hist fs t p k gk W' :=
  ⟨H.r.next hb, H.p.next hb, H.k.next hb, H.on.next hb⟩
/-- .. and the flow's copy, and its word unpacked. -/
structure A9 (w : World) (O O1 : Nat → Prop) (B : Nat) (z N : Int) (T : Nat → Int) (x : Int) (vr vf : Value) (vs : List Value) (hist : List (List R)) (fs : List Fl) (t : Nat → Int) (p : K) (k : Ke) (gk : Nat) (f : Fl) (g8 g9 : Nat) (W : World) : Prop where
  a : AK w O O1 B z N T x vr vf vs hist fs t p k gk W
  fc : Blk W g8 #[.int .u32 (f.k.a : Int), .int .u32 (f.k.b : Int), .int .u16 (f.k.p : Int), .int .u16 (f.k.q : Int), .int .u8 (f.k.r : Int), .int .u64 (FloM.gI f.c f.n f.s), .bool f.dn] 90
  uc : Blk W g9 (Fl.gtc f.s f.n f.c) 50
theorem A9.next {w W W' : World} {O O1 : Nat → Prop} {B : Nat} {z N : Int} {T : Nat → Int} {x : Int} {vr vf : Value} {vs : List Value} {hist : List (List R)} {fs : List Fl} {t : Nat → Int} {p : K} {k : Ke} {gk : Nat} {f : Fl} {g8 g9 : Nat} (H : A9 w O O1 B z N T x vr vf vs hist fs t p k gk f g8 g9 W) (hb : Below W.heap.size W W') : A9 w O O1 B z N T x vr vf vs hist fs t p k gk f g8 g9 W' :=
  ⟨H.a.next hb, H.fc.next hb, H.uc.next hb⟩
theorem Rf.froz {w : World} {O : Nat → Prop} {B : Nat} {z N : Int} {T : Nat → Int} {x : Int} {vr : Value} {vs : List Value} {hist : List (List R)} {fs : List Fl} {t : Nat → Int} {g n c : Nat} (H : Rf w O B z N T x vr (.slice (some ⟨g, 0, none⟩) n c) vs hist fs t) {i : Nat} {f : Fl} (hf : fs[i]? = some f) :
    w.cell? ⟨g, i * 7 + 5, none⟩ = some (.int .u64 (FloM.gI f.c f.n f.s)) ∧ w.frozen? ⟨g, i * 7 + 5, none⟩ = false := by
  obtain ⟨g', c', e, -, -, -, -, h1, h2⟩ := row_cell H.fr (j := i * 7 + 5) (u := .int .u64 (FloM.gI f.c f.n f.s)) (fvs_at fs i f hf 5 (by omega))
  injection e with e _ _
  injection e with e
  injection e with e
  subst e
  exact ⟨h1, h2⟩
set_option maxHeartbeats 1000000 in
theorem refAct_known {w : World} {O : Nat → Prop} {B : Nat} {z N : Int} {T : Nat → Int} {s : St} (H : QAt w O B z N T s) (he : Env w) (p : K) (hp : p.Ok) (f : Fl) (hk : find (keyP p) (delS s (keyP p)).fs = some f) :
    Calls Tryz.prog 31 #[ptr B, .agg (Ma.pK p)] w fun e w' => ∃ O' : Nat → Prop, e = .returned (.int .i64 (folV f p)) ∧ QAt w' O' B z N T (folS T (delS s (keyP p)) f p) ∧ Only O w w' ∧ ∀ j, O' j → O j ∨ w.heap.size ≤ j := by
  have HOF := Lib.hid (refOf_key p hp)
  have HENV := Lib.hid he
  have HLT := Lib.hid H.lt_
  have HH := Lib.hid H
  have hi1 : Inv N (delS s (keyP p)) := H.2.1.del (keyP p)
  have hok : (folF T (delS s (keyP p)).c f p).Ok ∧ (folF T (delS s (keyP p)).c f p).k = f.k := folF_ok (hi1.oks.ok f (find_some hk).1) hp
  have hfk := (find_some hk).2
  have HINV : Hid (Inv N (folS T (delS s (keyP p)) f p)) := hi1.fol (find_some hk).1 hp
  obtain ⟨i, hi, e1⟩ := findV_of hi1.oks hk
  have HPS : Hid (put (folF T (delS s (keyP p)).c f p) (delS s (keyP p)).fs = (delS s (keyP p)).fs.set i (folF T (delS s (keyP p)).c f p)) := put_set hi1.oks hk (hok.2.trans hfk) hi
  have HDEL : Hid (∀ W, QAt W O B z N T s → Env W → Calls Tryz.prog 27 #[ptr B, kyV (keyP p)] W fun e w' => ∃ O' : Nat → Prop, e = .returned (.bool (delB s (keyP p))) ∧ QAt w' O' B z N T (delS s (keyP p)) ∧ Only O W w' ∧ ∀ j, O' j → O j ∨ W.heap.size ≤ j) := fun W h e => refDelete_q h e (keyP p)
  have hfo := (hi1.oks.ok f (find_some hk).1).fit
  have HNX : Hid (∀ W, Calls Tryz.prog 60 #[.int .i64 f.s, .bool (!(dnP p == f.dn)), .agg (Ma.pK p)] W fun e w' => e = .returned (.tuple #[.int .i64 (folN f p), .bool (folB f p)]) ∧ Below W.heap.size W w') := fun W =>
    Fs.refNext_any f.s (dnP p != f.dn) _ _ _ _ _ _ _ (by have := hfo.v0; have := hfo.v1; omega) (by have := hp.fl; omega) W
  have HUP : Hid (∀ W, Calls Tryz.prog 33 #[.int .u64 (FloM.gI f.c f.n f.s)] W fun e w' => e = .returned (.agg (Fl.gtc f.s f.n f.c)) ∧ Below W.heap.size W w') := fun W => Fl.refUnpack_any hfo W
  have HN4 : Hid (∀ W, Calls Tryz.prog 61 #[.int .u64 (FloM.gI f.c f.n f.s), .int .i64 f.s, .int .i64 f.c] W fun e w' => e = .returned (.int .u64 (FloM.gI (Fl.clip f.c) (Fl.up f.n) (f.s % 16))) ∧ Below W.heap.size W w') := fun W => Fl.refNext_any hfo f.s f.c W
  have HWD : Hid (∀ W O1 vr vf vs hist, Rf W O1 B z N T (GatM.gI (delS s (keyP p)).c (delS s (keyP p)).g (delS s (keyP p)).v) vr vf vs hist (delS s (keyP p)).fs (delS s (keyP p)).tl → Calls Tryz.prog 62 #[ptr B, .int .u64 (FloM.gI f.c f.n f.s), .int .i64 (folN f p)] W fun e w' => e = .returned (.int .u64 (FloM.gI (Fl.clip (Fs.untN T (folN f p) (delS s (keyP p)).c)) (Fl.up f.n) (folN f p % 16))) ∧ Below W.heap.size W w') := fun W O1 vr vf vs hist h => refWord_any h hi1.fit H.2.2.1 hfo _
  have HYES : Hid (folB f p = true → folV f p = 1 ∧ folF T (delS s (keyP p)).c f p = { f with c := Fl.clip (Fs.untN T (folN f p) (delS s (keyP p)).c), n := Fl.up f.n, s := folN f p % 16 }) := fun h => by unfold folV folF; rw [h]; exact ⟨rfl, rfl⟩
  have HNOT : Hid (folB f p = false → folV f p = 4 ∧ folF T (delS s (keyP p)).c f p = { f with c := Fl.clip f.c, n := Fl.up f.n, s := f.s % 16 }) := fun h => by unfold folV folF; rw [h]; exact ⟨rfl, rfl⟩
  have HFS : Hid (folS T (delS s (keyP p)) f p = { delS s (keyP p) with fs := put (folF T (delS s (keyP p)).c f p) (delS s (keyP p)).fs }) := rfl
  have HI := Lib.hid hi
  have HE1 := Lib.hid e1
  clear hi1 hok hfk hi e1 hfo hk
  generalize delB s (keyP p) = db at *
  generalize delS s (keyP p) = s1 at *
  generalize keyP p = k at *
  generalize dnP p = dn at *
  have HB := Lib.hid (below_box w (.cells (Ma.pK p) 41))
  have HX := Lib.hid (Blk.box w (Ma.pK p) 41)
  obtain ⟨p0, p1, p2, p3, p4, p5, p6⟩ := Fs.pk_cells HX.out
  clear H he hp
  go_enter Tryz.func31, Tryz.ntmps31
  go_wp2_with fail
  go_at_call 59
  refine (HOF.out _).mono ?_
  rintro e w1 ⟨rfl, hb⟩
  have HB1 := Lib.hid ((HB.out.trans (hb.mono HB.out.size)).trans ((below_box w1 (.cells (Ky.kyc k.a k.b k.p k.q k.r) 45)).mono (HB.out.trans (hb.mono HB.out.size)).size))
  have HX1 := Lib.hid ((HX.out.next hb).alloc (.cells (Ky.kyc k.a k.b k.p k.q k.r) 45))
  have HK1 := Lib.hid (Blk.box w1 (Ky.kyc k.a k.b k.p k.q k.r) 45)
  have HSZ := Lib.hid (HB.out.trans (hb.mono HB.out.size)).size
  clear hb p0 p1 p2 p3 p4 p5 p6 HB HX
  go_wp2_with fail
  go_at_call 27
  refine (HDEL.out _ (HH.out.next HB1.out) (HENV.out.below HB1.out)).mono ?_
  rintro e W2 ⟨O1, rfl, hq, ho, hO⟩
  obtain ⟨⟨vr, vf, vs, hist, hr, hrest⟩, -, hq3⟩ := hq
  have hA : AK w O O1 B z N T (GatM.gI s1.c s1.g s1.v) vr vf vs hist s1.fs s1.tl p k w1.heap.size W2 := ⟨hr, HX1.out.only ho (fun h => Nat.lt_irrefl _ (HLT.out _ h)), HK1.out.only ho (fun h => by have := HLT.out _ h; have := HSZ.out; omega), (Only.of_below HB1.out : Only O w _).trans ho (fun j e => .inl e)⟩
  have HA := Lib.hid hA
  have HOS : Hid (∀ j, O1 j → O j ∨ w.heap.size ≤ j) := fun j hj => (hO j hj).imp id (fun h => Nat.le_trans HB1.out.size h)
  have HREST := Lib.hid hrest
  have HQ3 := Lib.hid hq3
  obtain ⟨gk, hgk⟩ : ∃ g, w1.heap.size = g := ⟨_, rfl⟩
  rw [hgk] at HA ⊢
  clear hr hrest hq3 ho hO hA HX1 HK1 HSZ HDEL HH hgk HB1
  obtain ⟨x0, x1, x2, x3, x4⟩ := Ky.ky_cells HA.out.k
  go_wp2_with fail
  clear x0 x1 x2 x3 x4
  go_at_call 57
  refine (refFind_any HA.out.r k).mono ?_
  rw [HE1.out]
  rintro e W3 ⟨rfl, hb⟩
  have HA3 := Lib.hid (HA.out.next hb)
  clear hb HA HE1
  obtain ⟨gf, cc, ev, -, hcm, -⟩ := HA3.out.r.flow HI.out
  subst ev
  obtain ⟨n, hn⟩ : ∃ n, s1.fs.length = n := ⟨_, rfl⟩
  have hin : i < n := by rw [← hn]; exact (List.getElem?_eq_some_iff.1 HI.out).1
  have hn4 : n ≤ 9223372036854775807 := by obtain ⟨A, c, e, h1, h2⟩ := HA3.out.r.len2; omega
  rw [hn] at HA3
  have HN := Lib.hid hn
  clear hn
  have x20 := HA3.out.r.at_ 20 _ rfl
  obtain ⟨y0, y1, y2, y3, y4, y5, y6⟩ := HA3.out.r.cells_ HI.out
  go_wp2_with fail
  have HX8 := Lib.hid (Blk.box W3 #[.int .u32 (f.k.a : Int), .int .u32 (f.k.b : Int), .int .u16 (f.k.p : Int), .int .u16 (f.k.q : Int), .int .u8 (f.k.r : Int), .int .u64 (FloM.gI f.c f.n f.s), .bool f.dn] 90)
  have HA3a := Lib.hid (HA3.out.next (below_box W3 (.cells #[.int .u32 (f.k.a : Int), .int .u32 (f.k.b : Int), .int .u16 (f.k.p : Int), .int .u16 (f.k.q : Int), .int .u8 (f.k.r : Int), .int .u64 (FloM.gI f.c f.n f.s), .bool f.dn] 90)))
  obtain ⟨g8, hg8⟩ : ∃ g, W3.heap.size = g := ⟨_, rfl⟩
  rw [hg8] at HX8 ⊢
  clear x20 y0 y1 y2 y3 y4 y5 y6 HA3 hg8
  go_at_call 33
  refine (HUP.out _).mono ?_
  rintro e W4 ⟨rfl, hb⟩
  have HA4 := Lib.hid (HA3a.out.next hb)
  have HX84 := Lib.hid (HX8.out.next hb)
  clear hb HA3a HX8 HUP
  have HX9 := Lib.hid (Blk.box W4 (Fl.gtc f.s f.n f.c) 50)
  have HX85 := Lib.hid (HX84.out.alloc (.cells (Fl.gtc f.s f.n f.c) 50))
  have HA5 := Lib.hid (HA4.out.next (below_box W4 (.cells (Fl.gtc f.s f.n f.c) 50)))
  have u0 := HX9.out.cell 0 _ rfl
  have q6 := HX85.out.cell 6 _ rfl
  obtain ⟨p0, p1, p2, p3, p4, p5, p6⟩ := Fs.pk_cells HA5.out.p
  clear HA4 HX84
  go_wp2_with fail
  go_at_call 60
  refine (HNX.out _).mono ?_
  rintro e W6 ⟨rfl, hb⟩
  have HA6 := Lib.hid (HA5.out.next hb)
  have HX86 := Lib.hid (HX85.out.next hb)
  have HX96 := Lib.hid (HX9.out.next hb)
  obtain ⟨g9, hg9⟩ : ∃ g, W4.heap.size = g := ⟨_, rfl⟩
  rw [hg9] at HX96 ⊢
  have HQ6 : Hid (A9 w O O1 B z N T (GatM.gI s1.c s1.g s1.v) vr (.slice (some ⟨gf, 0, none⟩) n cc) vs hist s1.fs s1.tl p k gk f g8 g9 W6) := ⟨HA6.out, HX86.out, HX96.out⟩
  clear hb u0 q6 p0 p1 p2 p3 p4 p5 p6 HA5 HX85 HX9 HNX HA6 HX86 HX96 hg9
  cases hfb : folB f p with
  | false =>
    have HV := Lib.hid (HNOT.out hfb)
    clear hfb HYES HNOT HWD
    go_wp2_with fail
    refine region_e (S := fun w' => Hid (A9 w O O1 B z N T (GatM.gI s1.c s1.g s1.v) vr (.slice (some ⟨gf, 0, none⟩) n cc) vs hist s1.fs s1.tl p k gk f g8 g9 w')) 14 (by kernel_rfl) (Lib.hid (HQ6.out.next (Below.refl _ W6).drew)) (fun hH => ?_)
    refine anyE_take (i := 0) (oi := ⟨some 55, _, _, _, _, _⟩) (v := ?v1) rfl (by kernel_rfl) (by kernel_rfl) (by kernel_rfl) (by kernel_rfl) (fun _ _ _ h => h) (Or.inl ⟨rfl, ?c1⟩) hH ?r1
    case c1 => (intro w' _; go_simp; (try with_reducible rfl))
    try simp only [Act.put, List.setIfInBounds_toArray, List.set_cons_zero, List.set_cons_succ]
    refine anyE_take (i := 1) (oi := ⟨some 56, _, _, _, _, _⟩) (v := ?v2) rfl (by kernel_rfl) (by kernel_rfl) (by kernel_rfl) (by kernel_rfl) (fun _ _ _ h => h) (Or.inl ⟨rfl, ?c2⟩) hH ?r2
    case c2 => (intro w' _; go_simp; (try with_reducible rfl))
    try simp only [Act.put, List.setIfInBounds_toArray, List.set_cons_zero, List.set_cons_succ]
    refine anyE_take (i := 2) (oi := ⟨some 57, _, _, _, _, _⟩) (v := ?v3) rfl (by kernel_rfl) (by kernel_rfl) (by kernel_rfl) (by kernel_rfl) (fun _ _ _ h => h) (Or.inl ⟨rfl, ?c3⟩) hH ?r3
    case c3 => (intro w' _; go_simp; (try with_reducible rfl))
    try simp only [Act.put, List.setIfInBounds_toArray, List.set_cons_zero, List.set_cons_succ]
    refine anyE_take (i := 3) (oi := ⟨some 58, _, _, _, _, _⟩) (v := ?v4) rfl (by kernel_rfl) (by kernel_rfl) (by kernel_rfl) (by kernel_rfl) (fun _ _ _ h => h) (Or.inl ⟨rfl, ?c4⟩) hH ?r4
    case c4 => (intro w' hS; have x20 := hS.out.a.r.at_ 20 _ rfl; go_simp; (try with_reducible rfl))
    try simp only [Act.put, List.setIfInBounds_toArray, List.set_cons_zero, List.set_cons_succ]
    refine anyE_take (i := 4) (oi := ⟨some 59, _, _, _, _, _⟩) (v := ?v5) rfl (by kernel_rfl) (by kernel_rfl) (by kernel_rfl) (by kernel_rfl) (fun _ _ _ h => h) (Or.inl ⟨rfl, ?c5⟩) hH ?r5
    case c5 => (intro w' _; go_simp; (try with_reducible rfl))
    try simp only [Act.put, List.setIfInBounds_toArray, List.set_cons_zero, List.set_cons_succ]
    refine anyE_take (i := 5) (oi := ⟨some 60, _, _, _, _, _⟩) (v := ?v6) rfl (by kernel_rfl) (by kernel_rfl) (by kernel_rfl) (by kernel_rfl) (fun _ _ _ h => h) (Or.inl ⟨rfl, ?c6⟩) hH ?r6
    case c6 => (intro w' _; go_simp; (try with_reducible rfl))
    try simp only [Act.put, List.setIfInBounds_toArray, List.set_cons_zero, List.set_cons_succ]
    refine anyE_take (i := 6) (oi := ⟨some 61, _, _, _, _, _⟩) (v := ?v7) rfl (by kernel_rfl) (by kernel_rfl) (by kernel_rfl) (by kernel_rfl) (fun _ _ _ h => h) (Or.inl ⟨rfl, ?c7⟩) hH ?r7
    case c7 => (intro w' hS; have q5 := hS.out.fc.cell 5 _ rfl; go_simp; (try with_reducible rfl))
    try simp only [Act.put, List.setIfInBounds_toArray, List.set_cons_zero, List.set_cons_succ]
    refine anyE_take (i := 7) (oi := ⟨some 62, _, _, _, _, _⟩) (v := ?v8) rfl (by kernel_rfl) (by kernel_rfl) (by kernel_rfl) (by kernel_rfl) (fun _ _ _ h => h) (Or.inl ⟨rfl, ?c8⟩) hH ?r8
    case c8 => (intro w' _; go_simp; (try with_reducible rfl))
    try simp only [Act.put, List.setIfInBounds_toArray, List.set_cons_zero, List.set_cons_succ]
    refine anyE_take (i := 8) (oi := ⟨some 63, _, _, _, _, _⟩) (v := ?v9) rfl (by kernel_rfl) (by kernel_rfl) (by kernel_rfl) (by kernel_rfl) (fun _ _ _ h => h) (Or.inl ⟨rfl, ?c9⟩) hH ?r9
    case c9 => (intro w' hS; have u0 := hS.out.uc.cell 0 _ rfl; go_simp; (try with_reducible rfl))
    try simp only [Act.put, List.setIfInBounds_toArray, List.set_cons_zero, List.set_cons_succ]
    refine anyE_take (i := 9) (oi := ⟨some 64, _, _, _, _, _⟩) (v := ?v10) rfl (by kernel_rfl) (by kernel_rfl) (by kernel_rfl) (by kernel_rfl) (fun _ _ _ h => h) (Or.inl ⟨rfl, ?c10⟩) hH ?r10
    case c10 => (intro w' _; go_simp; (try with_reducible rfl))
    try simp only [Act.put, List.setIfInBounds_toArray, List.set_cons_zero, List.set_cons_succ]
    refine anyE_take (i := 10) (oi := ⟨some 65, _, _, _, _, _⟩) (v := ?v11) rfl (by kernel_rfl) (by kernel_rfl) (by kernel_rfl) (by kernel_rfl) (fun _ _ _ h => h) (Or.inl ⟨rfl, ?c11⟩) hH ?r11
    case c11 => (intro w' hS; have u2 := hS.out.uc.cell 2 _ rfl; go_simp; (try with_reducible rfl))
    try simp only [Act.put, List.setIfInBounds_toArray, List.set_cons_zero, List.set_cons_succ]
    refine anyE_ready (rs := [11]) (by kernel_rfl) (by simp) (AllE.cons rfl (fun K hK => ?_) (AllE.nil))
    go_simp
    go_at_call 61
    refine (HN4.out _).mono ?_
    rintro e W7 ⟨rfl, hbp⟩
    refine hK.out _ _ (Lib.hid (hH.out.next hbp)) (fun hH => ?_)
    clear hK K
    clear hbp
    try simp only [Act.put, List.setIfInBounds_toArray, List.set_cons_zero, List.set_cons_succ]
    refine anyE_ready (rs := [12]) (by kernel_rfl) (by simp) (AllE.cons rfl (fun K hK => ?_) (AllE.nil))
    go_simp
    refine hK.out _ _ (hH) (fun hH => ?_)
    clear hK K
    try simp only [Act.put, List.setIfInBounds_toArray, List.set_cons_zero, List.set_cons_succ]
    refine anyE_take (i := 13) (oi := ⟨some 68, _, _, _, _, _⟩) (v := ?v12) rfl (by kernel_rfl) (by kernel_rfl) (by kernel_rfl) (by kernel_rfl) (fun _ _ _ h => h) (Or.inl ⟨rfl, ?c12⟩) hH ?r12
    case c12 => (intro w' _; go_simp; (try with_reducible rfl))
    try simp only [Act.put, List.setIfInBounds_toArray, List.set_cons_zero, List.set_cons_succ]
    refine anyE_ready (rs := [14]) (by kernel_rfl) (by simp) (AllE.end_ rfl (fun K hK => ?_))
    obtain ⟨y5, f5⟩ := hH.out.a.r.froz HI.out
    go_simp
    clear y5 f5
    refine hK.out _ _ ?_
    clear hK K
    try simp only [Act.put, List.setIfInBounds_toArray, List.set_cons_zero, List.set_cons_succ]
    refine anyE_done (by kernel_rfl) ?_ _
    obtain ⟨hR, hO⟩ := Rf.put hH.out.a.r HI.out (f' := { f with c := Fl.clip f.c, n := Fl.up f.n, s := f.s % 16 }) rfl rfl HN.out
    have ep := HPS.out
    rw [HV.out.2] at ep
    rw [← ep] at hR
    clear ep
    have hon := hH.out.a.on.trans hO (fun j e => HOS.out j e)
    have HR := Lib.hid hR
    have HON := Lib.hid hon
    clear hR hO hon hH HQ6
    go_wp2_with fail
    go_ret
    exact ⟨by rw [HV.out.1]; rfl, O1, ⟨⟨vr, _, vs, hist, by rw [HFS.out, HV.out.2]; exact HR.out, by rw [HFS.out]; exact HREST.out⟩, HINV.out, HQ3.out⟩, HON.out, HOS.out⟩
  | true =>
    have HV := Lib.hid (HYES.out hfb)
    clear hfb HYES HNOT HN4
    go_wp2_with fail
    refine region_e (S := fun w' => Hid (A9 w O O1 B z N T (GatM.gI s1.c s1.g s1.v) vr (.slice (some ⟨gf, 0, none⟩) n cc) vs hist s1.fs s1.tl p k gk f g8 g9 w')) 12 (by kernel_rfl) (Lib.hid (HQ6.out.next (Below.refl _ W6).drew)) (fun hH => ?_)
    refine anyE_take (i := 0) (oi := ⟨some 69, _, _, _, _, _⟩) (v := ?v101) rfl (by kernel_rfl) (by kernel_rfl) (by kernel_rfl) (by kernel_rfl) (fun _ _ _ h => h) (Or.inl ⟨rfl, ?c101⟩) hH ?r101
    case c101 => (intro w' _; go_simp; (try with_reducible rfl))
    try simp only [Act.put, List.setIfInBounds_toArray, List.set_cons_zero, List.set_cons_succ]
    refine anyE_take (i := 1) (oi := ⟨some 70, _, _, _, _, _⟩) (v := ?v102) rfl (by kernel_rfl) (by kernel_rfl) (by kernel_rfl) (by kernel_rfl) (fun _ _ _ h => h) (Or.inl ⟨rfl, ?c102⟩) hH ?r102
    case c102 => (intro w' _; go_simp; (try with_reducible rfl))
    try simp only [Act.put, List.setIfInBounds_toArray, List.set_cons_zero, List.set_cons_succ]
    refine anyE_take (i := 2) (oi := ⟨some 71, _, _, _, _, _⟩) (v := ?v103) rfl (by kernel_rfl) (by kernel_rfl) (by kernel_rfl) (by kernel_rfl) (fun _ _ _ h => h) (Or.inl ⟨rfl, ?c103⟩) hH ?r103
    case c103 => (intro w' _; go_simp; (try with_reducible rfl))
    try simp only [Act.put, List.setIfInBounds_toArray, List.set_cons_zero, List.set_cons_succ]
    refine anyE_take (i := 3) (oi := ⟨some 72, _, _, _, _, _⟩) (v := ?v104) rfl (by kernel_rfl) (by kernel_rfl) (by kernel_rfl) (by kernel_rfl) (fun _ _ _ h => h) (Or.inl ⟨rfl, ?c104⟩) hH ?r104
    case c104 => (intro w' hS; have x20 := hS.out.a.r.at_ 20 _ rfl; go_simp; (try with_reducible rfl))
    try simp only [Act.put, List.setIfInBounds_toArray, List.set_cons_zero, List.set_cons_succ]
    refine anyE_take (i := 4) (oi := ⟨some 73, _, _, _, _, _⟩) (v := ?v105) rfl (by kernel_rfl) (by kernel_rfl) (by kernel_rfl) (by kernel_rfl) (fun _ _ _ h => h) (Or.inl ⟨rfl, ?c105⟩) hH ?r105
    case c105 => (intro w' _; go_simp; (try with_reducible rfl))
    try simp only [Act.put, List.setIfInBounds_toArray, List.set_cons_zero, List.set_cons_succ]
    refine anyE_take (i := 5) (oi := ⟨some 74, _, _, _, _, _⟩) (v := ?v106) rfl (by kernel_rfl) (by kernel_rfl) (by kernel_rfl) (by kernel_rfl) (fun _ _ _ h => h) (Or.inl ⟨rfl, ?c106⟩) hH ?r106
    case c106 => (intro w' _; go_simp; (try with_reducible rfl))
    try simp only [Act.put, List.setIfInBounds_toArray, List.set_cons_zero, List.set_cons_succ]
    refine anyE_take (i := 6) (oi := ⟨some 75, _, _, _, _, _⟩) (v := ?v107) rfl (by kernel_rfl) (by kernel_rfl) (by kernel_rfl) (by kernel_rfl) (fun _ _ _ h => h) (Or.inl ⟨rfl, ?c107⟩) hH ?r107
    case c107 => (intro w' _; go_simp; (try with_reducible rfl))
    try simp only [Act.put, List.setIfInBounds_toArray, List.set_cons_zero, List.set_cons_succ]
    refine anyE_take (i := 7) (oi := ⟨some 76, _, _, _, _, _⟩) (v := ?v108) rfl (by kernel_rfl) (by kernel_rfl) (by kernel_rfl) (by kernel_rfl) (fun _ _ _ h => h) (Or.inl ⟨rfl, ?c108⟩) hH ?r108
    case c108 => (intro w' hS; have q5 := hS.out.fc.cell 5 _ rfl; go_simp; (try with_reducible rfl))
    try simp only [Act.put, List.setIfInBounds_toArray, List.set_cons_zero, List.set_cons_succ]
    refine anyE_take (i := 8) (oi := ⟨some 77, _, _, _, _, _⟩) (v := ?v109) rfl (by kernel_rfl) (by kernel_rfl) (by kernel_rfl) (by kernel_rfl) (fun _ _ _ h => h) (Or.inl ⟨rfl, ?c109⟩) hH ?r109
    case c109 => (intro w' _; go_simp; (try with_reducible rfl))
    try simp only [Act.put, List.setIfInBounds_toArray, List.set_cons_zero, List.set_cons_succ]
    refine anyE_ready (rs := [9]) (by kernel_rfl) (by simp) (AllE.cons rfl (fun K hK => ?_) (AllE.nil))
    go_simp
    go_at_call 62
    refine (HWD.out _ _ _ _ _ _ hH.out.a.r).mono ?_
    rintro e W7 ⟨rfl, hbp⟩
    refine hK.out _ _ (Lib.hid (hH.out.next hbp)) (fun hH => ?_)
    clear hK K
    clear hbp
    try simp only [Act.put, List.setIfInBounds_toArray, List.set_cons_zero, List.set_cons_succ]
    refine anyE_ready (rs := [10]) (by kernel_rfl) (by simp) (AllE.cons rfl (fun K hK => ?_) (AllE.nil))
    go_simp
    refine hK.out _ _ (hH) (fun hH => ?_)
    clear hK K
    try simp only [Act.put, List.setIfInBounds_toArray, List.set_cons_zero, List.set_cons_succ]
    refine anyE_take (i := 11) (oi := ⟨some 80, _, _, _, _, _⟩) (v := ?v110) rfl (by kernel_rfl) (by kernel_rfl) (by kernel_rfl) (by kernel_rfl) (fun _ _ _ h => h) (Or.inl ⟨rfl, ?c110⟩) hH ?r110
    case c110 => (intro w' _; go_simp; (try with_reducible rfl))
    try simp only [Act.put, List.setIfInBounds_toArray, List.set_cons_zero, List.set_cons_succ]
    refine anyE_ready (rs := [12]) (by kernel_rfl) (by simp) (AllE.end_ rfl (fun K hK => ?_))
    obtain ⟨y5, f5⟩ := hH.out.a.r.froz HI.out
    go_simp
    clear y5 f5
    refine hK.out _ _ ?_
    clear hK K
    try simp only [Act.put, List.setIfInBounds_toArray, List.set_cons_zero, List.set_cons_succ]
    refine anyE_done (by kernel_rfl) ?_ _
    obtain ⟨hR, hO⟩ := Rf.put hH.out.a.r HI.out (f' := { f with c := Fl.clip (Fs.untN T (folN f p) s1.c), n := Fl.up f.n, s := folN f p % 16 }) rfl rfl HN.out
    have ep := HPS.out
    rw [HV.out.2] at ep
    rw [← ep] at hR
    clear ep
    have hon := hH.out.a.on.trans hO (fun j e => HOS.out j e)
    have HR := Lib.hid hR
    have HON := Lib.hid hon
    clear hR hO hon hH HQ6
    go_wp2_with fail
    go_ret
    exact ⟨by rw [HV.out.1]; rfl, O1, ⟨⟨vr, _, vs, hist, by rw [HFS.out, HV.out.2]; exact HR.out, by rw [HFS.out]; exact HREST.out⟩, HINV.out, HQ3.out⟩, HON.out, HOS.out⟩
end Au
end Go.Proofs.YtgcnhbjoalemlaaGreatDoor
