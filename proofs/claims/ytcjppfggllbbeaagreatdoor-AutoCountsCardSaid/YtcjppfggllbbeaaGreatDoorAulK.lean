/- Layer 18: a config that came in by value; a slice of acts that came in. -/
import Derived.Test.YtcjppfggllbbeaaGreatDoorJ29
import Derived.Test.YtcjppfggllbbeaaGreatDoorComQ
import Derived.Test.YtcjppfggllbbeaaGreatDoorJ46
set_option linter.unusedVariables false
set_option linter.unusedSimpArgs false
set_option maxRecDepth 100000
namespace Go.Proofs.YtcjppfggllbbeaaGreatDoor
open Go.ChangeShapes Go.WideShapes Go.ChangeAt Go.RowKit Go.Mtl Go.Lib Go.Deep
namespace Au
open AutM
open RulM (R)
open MatM (K)
section
variable {H : Type} {enc : TypeId × Value → H} {P : Program} {w : World} {base : Nat} {spare : Nat → Bool} {held : Bool}
/-- An array of integers, cell by cell. -/
theorem trod_ints {t e : TypeId} {k : IntKind} {m : Nat} (ha : P.underlying t = some (.array m e)) (he : P.underlying e = some (.int k)) (hc : P.cellsOf e = 1) {n : Nat} {cs : List Value} (hl : cs.length = m) {x : DataW H × List MemPlace}
    (h : DataW.trod enc P w base spare held n t cs = some x) : ∃ f : Nat → Int, ∀ i, i < m → cs[i]? = some (.int k (f i)) ∧ (Lit.int k (f i)).wf = true := by
  obtain ⟨xs, m', _, _, _, hxl, hg⟩ := DataW.trod_array ha h
  have one : ∀ i : Nat, i < m → ∃ a : Int, cs[i]? = some (.int k a) ∧ (Lit.int k a).wf = true := by
    intro i hi
    have g := hg i hi
    rw [hc, Nat.mul_one] at g
    rw [List.drop_eq_getElem_cons (by omega), List.take_succ_cons, List.take_zero, List.getElem?_eq_getElem (by omega)] at g
    obtain ⟨a, ea, _, wa⟩ := DataW.trod_int he g
    refine ⟨a, ?_, wa⟩
    rw [List.getElem?_eq_getElem (by omega)]
    simpa using ea
  have F : ∀ i : Nat, ∃ a : Int, i < m → cs[i]? = some (.int k a) ∧ (Lit.int k a).wf = true := by
    intro i
    by_cases hi : i < m
    · obtain ⟨a, ha⟩ := one i hi
      exact ⟨a, fun _ => ha⟩
    · exact ⟨0, fun h => absurd h hi⟩
  exact ⟨fun i => Classical.choose (F i), fun i hi => Classical.choose_spec (F i) hi⟩
/-- A config by value. -/
theorem open_cfg {r : Reach} {b0 : Nat} {t ti ta : TypeId} {fs : Array Field} {v : Value} {d : DataW H} {p : List MemPlace} (hs : P.underlying t = some (.struct fs)) (hC : P.cellsOf t = 18) (hf : fs.toList.map (fun f => (f.type, f.offset)) = [(ti, 0), (ti, 1), (ta, 2)])
    (hi : P.underlying ti = some (.int .i64)) (ha : P.underlying ta = some (.array 16 ti)) (ci : P.cellsOf ti = 1) (ca : P.cellsOf ta = 16) (hv : Value.okWide P w r b0 t v) (h : DataW.Trod enc P w base spare held t v d p) :
    ∃ (z N : Int) (T : Nat → Int), v = .agg (cfc z N T) ∧ (-9223372036854775808 ≤ z ∧ z ≤ 9223372036854775807) ∧ (-9223372036854775808 ≤ N ∧ N ≤ 9223372036854775807) ∧ ∀ i, -9223372036854775808 ≤ T i ∧ T i ≤ 9223372036854775807 := by
  obtain ⟨vs, rfl, hsz⟩ := okWide_struct hs hv
  obtain ⟨fuel, hfu⟩ := h
  obtain ⟨ys, n, _, _, _, hyl, hg⟩ := DataW.trod_struct hs hfu
  rw [hC] at hsz
  obtain ⟨l⟩ := vs
  obtain ⟨fl⟩ := fs
  obtain ⟨f0, f1, f2, rfl⟩ : ∃ f0 f1 f2, fl = [f0, f1, f2] := by
    rcases fl with _ | ⟨f0, _ | ⟨f1, _ | ⟨f2, _ | ⟨f3, fl⟩⟩⟩⟩
    · simp at hf
    · simp at hf
    · simp at hf
    · exact ⟨_, _, _, rfl⟩
    · simp at hf
  simp only [List.map_cons, List.map_nil, List.cons.injEq, Prod.mk.injEq, and_true] at hf
  obtain ⟨⟨t0, o0⟩, ⟨t1, o1⟩, t2, o2⟩ := hf
  have g0 := hg 0 f0 rfl
  have g1 := hg 1 f1 rfl
  have g2 := hg 2 f2 rfl
  have hy : ys.length = 3 := hyl
  have hcs : (Value.agg (⟨l⟩ : Array Value)).cells.toList = l := by simp [Value.cells]
  have hll : l.length = 18 := by simpa using hsz
  rw [t0, o0, ci, List.getElem?_eq_getElem (by omega), hcs] at g0
  rw [t1, o1, ci, List.getElem?_eq_getElem (by omega), hcs] at g1
  rw [t2, o2, ca, List.getElem?_eq_getElem (by omega), hcs] at g2
  obtain ⟨T, hT⟩ := trod_ints ha hi ci (by simp; omega) g2
  match l, hll with
  | [c0, c1, d0, d1, d2, d3, d4, d5, d6, d7, d8, d9, e0, e1, e2, e3, e4, e5], _ =>
    simp only [List.drop_zero, List.take_succ_cons, List.take_zero, List.drop_succ_cons] at g0 g1
    obtain ⟨z, ez, _, wz⟩ := DataW.trod_int hi g0
    obtain ⟨N, eN, _, wN⟩ := DataW.trod_int hi g1
    obtain rfl : c0 = .int .i64 z := by simpa using ez
    obtain rfl : c1 = .int .i64 N := by simpa using eN
    simp only [List.take_succ_cons, List.take_zero, List.drop_zero, List.drop_succ_cons] at hT
    have q : ∀ i, i < 16 → -9223372036854775808 ≤ T i ∧ T i ≤ 9223372036854775807 := fun i hi => by have := bounds_i64 (hT i hi).2; omega
    refine ⟨z, N, fun i => if i < 16 then T i else 0, ?_, bounds_i64 wz, bounds_i64 wN, fun i => ?_⟩
    · have x0 := (hT 0 (by omega)).1
      have x1 := (hT 1 (by omega)).1
      have x2 := (hT 2 (by omega)).1
      have x3 := (hT 3 (by omega)).1
      have x4 := (hT 4 (by omega)).1
      have x5 := (hT 5 (by omega)).1
      have x6 := (hT 6 (by omega)).1
      have x7 := (hT 7 (by omega)).1
      have x8 := (hT 8 (by omega)).1
      have x9 := (hT 9 (by omega)).1
      have y0 := (hT 10 (by omega)).1
      have y1 := (hT 11 (by omega)).1
      have y2 := (hT 12 (by omega)).1
      have y3 := (hT 13 (by omega)).1
      have y4 := (hT 14 (by omega)).1
      have y5 := (hT 15 (by omega)).1
      simp at x0 x1 x2 x3 x4 x5 x6 x7 x8 x9 y0 y1 y2 y3 y4 y5
      subst x0 x1 x2 x3 x4 x5 x6 x7 x8 x9 y0 y1 y2 y3 y4 y5
      rfl
    · show _ ≤ (if i < 16 then T i else 0) ∧ (if i < 16 then T i else 0) ≤ _
      split
      · exact q i (by assumption)
      · omega
/-- The types of an act, of one program. -/
structure DoTypes (P : Program) (t : TypeId) : Prop where
  ty : ∃ (fs fp fk : Array Field) (t8 ti tp tk tl ta tb tr t32 t16 : TypeId), P.underlying t = some (.struct fs) ∧ fs.toList.map (fun f => (f.type, f.offset)) = [(t8, 0), (ti, 1), (tp, 2), (tk, 9), (tl, 14)] ∧
    P.underlying t8 = some (.int .u8) ∧ P.underlying ti = some (.int .i64) ∧ P.underlying tp = some (.struct fp) ∧ oneCellFields P fp = true ∧ fp.size = 7 ∧ kindsB P fp [.u8, .u32, .u32, .u16, .u16, .u8, .u8] = true ∧
    P.underlying tk = some (.struct fk) ∧ fk.toList.map (fun f => (f.type, f.offset)) = [(ta, 0), (tb, 2), (t8, 4)] ∧ P.underlying ta = some (.array 2 t32) ∧ P.underlying tb = some (.array 2 t16) ∧ P.underlying t32 = some (.int .u32) ∧ P.underlying t16 = some (.int .u16) ∧
    P.underlying tl = some (.slice tr) ∧ RuleTypes P tr ∧ P.cellsOf t = 15 ∧ P.cellsOf t8 = 1 ∧ P.cellsOf ti = 1 ∧ P.cellsOf tp = 7 ∧ P.cellsOf tk = 5 ∧ P.cellsOf tl = 1 ∧ P.cellsOf ta = 2 ∧ P.cellsOf tb = 2 ∧ P.cellsOf t32 = 1 ∧ P.cellsOf t16 = 1
/-- The fifteen cells of an act that was read. -/
theorem open_fifteen {t : TypeId} (D : DoTypes P t) {n : Nat} {cs : List Value} (hl : cs.length = 15) {x : DataW H × List MemPlace} (h : DataW.trod enc P w 0 (fun _ => true) true n t cs = some x) :
    ∃ y : Dk, cs = (doC y).toList ∧ y.Ok ∧ Rds w w.heap.size y.va y.l := by
  obtain ⟨fs, fp, fk, t8, ti, tp, tk, tl, ta, tb, tr, t32, t16, hs, hf, h8, hi, hp, hone, hpz, hkb, hk, hkf, hta, htb, h32, h16, htl, hrt, ct, c8, ci, cp, ck, cl, ca, cb, c32, c16⟩ := D.ty
  obtain ⟨ys, m, _, _, _, hyl, hg⟩ := DataW.trod_struct hs h
  obtain ⟨fl⟩ := fs
  obtain ⟨f0, f1, f2, f3, f4, rfl⟩ : ∃ f0 f1 f2 f3 f4, fl = [f0, f1, f2, f3, f4] := by
    rcases fl with _ | ⟨f0, _ | ⟨f1, _ | ⟨f2, _ | ⟨f3, _ | ⟨f4, _ | ⟨f5, fl⟩⟩⟩⟩⟩⟩
    · simp at hf
    · simp at hf
    · simp at hf
    · simp at hf
    · simp at hf
    · exact ⟨_, _, _, _, _, rfl⟩
    · simp at hf
  simp only [List.map_cons, List.map_nil, List.cons.injEq, Prod.mk.injEq, and_true] at hf
  obtain ⟨⟨e0, o0⟩, ⟨e1, o1⟩, ⟨e2, o2⟩, ⟨e3, o3⟩, e4, o4⟩ := hf
  have hy : ys.length = 5 := hyl
  have g0 := hg 0 f0 rfl
  have g1 := hg 1 f1 rfl
  have g2 := hg 2 f2 rfl
  have g3 := hg 3 f3 rfl
  have g4 := hg 4 f4 rfl
  rw [e0, o0, c8, List.getElem?_eq_getElem (by omega)] at g0
  rw [e1, o1, ci, List.getElem?_eq_getElem (by omega)] at g1
  rw [e2, o2, cp, List.getElem?_eq_getElem (by omega)] at g2
  rw [e3, o3, ck, List.getElem?_eq_getElem (by omega)] at g3
  rw [e4, o4, cl, List.getElem?_eq_getElem (by omega)] at g4
  match cs, hl with
  | [v0, v1, p0, p1, p2, p3, p4, p5, p6, k0, k1, k2, k3, k4, vl], _ =>
    simp only [List.drop_zero, List.take_succ_cons, List.take_zero, List.drop_succ_cons] at g0 g1 g2 g3 g4
    obtain ⟨kd, ekd, _, wkd⟩ := DataW.trod_int h8 g0
    obtain ⟨xn, exn, _, wxn⟩ := DataW.trod_int hi g1
    obtain rfl : v0 = .int .u8 kd := by simpa using ekd
    obtain rfl : v1 = .int .i64 xn := by simpa using exn
    obtain ⟨r, ⟨hrl, hrf⟩, hrc⟩ := open_ints_row (ks := [.u8, .u32, .u32, .u16, .u16, .u8, .u8]) hp hone (by rw [hpz]; rfl) (kinds_of hkb) rfl g2
    match r, hrl with
    | [q0, q1, q2, q3, q4, q5, q6], _ =>
      have z0 := hrc 0 _ _ rfl rfl
      have z1 := hrc 1 _ _ rfl rfl
      have z2 := hrc 2 _ _ rfl rfl
      have z3 := hrc 3 _ _ rfl rfl
      have z4 := hrc 4 _ _ rfl rfl
      have z5 := hrc 5 _ _ rfl rfl
      have z6 := hrc 6 _ _ rfl rfl
      simp at z0 z1 z2 z3 z4 z5 z6
      have b0 := bounds_u8 (hrf 0 _ _ rfl rfl)
      have b1 := bounds_u32 (hrf 1 _ _ rfl rfl)
      have b2 := bounds_u32 (hrf 2 _ _ rfl rfl)
      have b3 := bounds_u16 (hrf 3 _ _ rfl rfl)
      have b4 := bounds_u16 (hrf 4 _ _ rfl rfl)
      have b5 := bounds_u8 (hrf 5 _ _ rfl rfl)
      have b6 := bounds_u8 (hrf 6 _ _ rfl rfl)
      subst z0 z1 z2 z3 z4 z5 z6
      obtain ⟨kk, hkk, rfl, rfl, rfl, rfl, rfl, rfl, rfl⟩ := MatM.k_of ⟨b0, b1, b2, b3, b4, b5, b6⟩
      obtain ⟨ks, m2, _, _, _, hkl, hkg⟩ := DataW.trod_struct hk g3
      obtain ⟨fl2⟩ := fk
      obtain ⟨j0, j1, j2, rfl⟩ : ∃ j0 j1 j2, fl2 = [j0, j1, j2] := by
        rcases fl2 with _ | ⟨f0, _ | ⟨f1, _ | ⟨f2, _ | ⟨f3, fl⟩⟩⟩⟩
        · simp at hkf
        · simp at hkf
        · simp at hkf
        · exact ⟨_, _, _, rfl⟩
        · simp at hkf
      simp only [List.map_cons, List.map_nil, List.cons.injEq, Prod.mk.injEq, and_true] at hkf
      obtain ⟨⟨a0, oo0⟩, ⟨a1, oo1⟩, a2, oo2⟩ := hkf
      have m0 := hkg 0 j0 rfl
      have m1 := hkg 1 j1 rfl
      have m2 := hkg 2 j2 rfl
      have hkl3 : ks.length = 3 := hkl
      rw [a0, oo0, ca, List.getElem?_eq_getElem (by omega)] at m0
      rw [a1, oo1, cb, List.getElem?_eq_getElem (by omega)] at m1
      rw [a2, oo2, c8, List.getElem?_eq_getElem (by omega)] at m2
      simp only [List.drop_zero, List.take_succ_cons, List.take_zero, List.drop_succ_cons] at m0 m1 m2
      obtain ⟨x1, x2, rfl, rfl, w1, w2⟩ := open_two hta h32 c32 m0
      obtain ⟨x3, x4, rfl, rfl, w3, w4⟩ := open_two htb h16 c16 m1
      obtain ⟨x5, ex5, _, w5⟩ := DataW.trod_int h8 m2
      obtain rfl : k4 = .int .u8 x5 := by simpa using ex5
      have u1 := bounds_u32 w1
      have u2 := bounds_u32 w2
      have u3 := bounds_u16 w3
      have u4 := bounds_u16 w4
      have u5 := bounds_u8 w5
      have u0 := bounds_u8 wkd
      obtain ⟨Av, len, cap, rfl⟩ : ∃ Av len cap, vl = .slice Av len cap := by
        rcases open_slice htl g4 with ⟨hcs, _⟩ | ⟨a, l, c, mm, n', D', Pl, hcs, _⟩
        · simp at hcs; exact ⟨_, _, _, hcs⟩
        · simp at hcs; exact ⟨_, _, _, hcs⟩
      obtain ⟨rs, hrs, hro⟩ := open_rules (P := P) (w := w) (enc := enc) (n := 0) hrt htl (A := Av) (len := len) (cap := cap) (d := ys[4].1) (p := ys[4].2) ⟨_, by simpa [Value.cells] using g4⟩
      refine ⟨⟨kd.toNat, xn, kk, ⟨x1.toNat, x2.toNat, x3.toNat, x4.toNat, x5.toNat⟩, rs, .slice Av len cap⟩, ?_, ⟨by simp only; omega, bounds_i64 wxn, hkk, ⟨by simp only; omega, by simp only; omega, by simp only; omega, by simp only; omega, by simp only; omega⟩, hro⟩, hrs⟩
      simp only [List.cons.injEq, Value.int.injEq, true_and, and_true]
      refine ⟨by omega, by omega, by omega, by omega, by omega, by omega⟩
theorem open_dos {t e : TypeId} (D : DoTypes P e) (ht : P.underlying t = some (.slice e)) {A : Option Addr} {len cap : Nat} {d : DataW H} {p : List MemPlace}
    (h : DataW.Trod enc P w 0 (fun _ => true) true t (.slice A len cap) d p) : ∃ xs : List Dk, xs.length = len ∧ Das w w.heap.size (.slice A len cap) xs ∧ ∀ x ∈ xs, x.Ok := by
  have hC : P.cellsOf e = 15 := by obtain ⟨fs, fp, fk, t8, ti, tp, tk, tl, ta, tb, tr, t32, t16, hs, hf, h8, hi, hp, hone, hpz, hkb, hk, hkf, hta, htb, h32, h16, htl, hrt, ct, _⟩ := D.ty; exact ct
  obtain ⟨fuel, hf⟩ := h
  rcases open_slice ht hf with ⟨hcs, _⟩ | ⟨a, l, c, m, n', D', Pl, hcs, hb, hl, hm, hmm, _, hi⟩
  · simp [Value.cells] at hcs
    obtain ⟨rfl, rfl, rfl⟩ := hcs
    exact ⟨[], rfl, ⟨none, 0, rfl, Nat.le_refl _, by omega, fun h => absurd h (by simp), fun x hx => by cases hx⟩, fun x hx => by cases hx⟩
  · simp [Value.cells] at hcs
    obtain ⟨rfl, rfl, rfl⟩ := hcs
    simp at hmm
    subst hmm
    rw [hC] at hi
    have each : ∀ i, i < len → ∃ y : Dk, y.Ok ∧ Rds w w.heap.size y.va y.l ∧ ∀ (j : Nat) (u : Value), (doC y)[j]? = some u → w.cell? (a.add (i * 15 + j)) = some u := by
      intro i hlt
      obtain ⟨cs', hc, htr⟩ := hi i (by omega)
      obtain ⟨_, hcl, hat⟩ := World.cells?_some hc
      obtain ⟨y, hy, hok, hrd⟩ := open_fifteen D hcl htr
      refine ⟨y, hok, hrd, fun j u hu => ?_⟩
      have hj : j < 15 := (Array.getElem?_eq_some_iff.1 hu).1
      rw [← Go.Deep.add_add, hat j hj, hy, ← hu]
      simp
    have all : ∀ n, n ≤ len → ∃ xs : List Dk, xs.length = n ∧ (∀ x ∈ xs, x.Ok ∧ Rds w w.heap.size x.va x.l) ∧ ∀ (i : Nat) (x : Dk), xs[i]? = some x → ∀ (j : Nat) (u : Value), (doC x)[j]? = some u → w.cell? (a.add (i * 15 + j)) = some u := by
      intro n
      induction n with
      | zero => intro _; exact ⟨[], rfl, (fun x hx => by cases hx), (fun i x hx => by simp at hx)⟩
      | succ n ih =>
        intro hn
        obtain ⟨xs, h1, h2, h3⟩ := ih (by omega)
        obtain ⟨y, ho, hr, hc⟩ := each n (by omega)
        refine ⟨xs ++ [y], by simp [h1], fun q hq => ?_, fun i q hq => ?_⟩
        · rcases List.mem_append.1 hq with hq | hq
          · exact h2 q hq
          · rw [List.mem_singleton.1 hq]; exact ⟨ho, hr⟩
        · by_cases hj : i < xs.length
          · rw [List.getElem?_append_left hj] at hq
            exact h3 i q hq
          · have hq2 : i < (xs ++ [y]).length := (List.getElem?_eq_some_iff.1 hq).1
            have hin : i = n := by simp at hq2; omega
            subst hin
            rw [List.getElem?_append_right (by omega), h1, Nat.sub_self] at hq
            simp at hq
            subst hq
            exact hc
    obtain ⟨xs, h1, h2, h3⟩ := all len (Nat.le_refl _)
    refine ⟨xs, h1, ⟨some a, m, by rw [h1], by omega, by unfold maxLen at hm; omega, fun hn => ?_, fun x hx => (h2 x hx).2⟩, fun x hx => (h2 x hx).1⟩
    obtain ⟨b, off, sp⟩ := a
    obtain ⟨x, hx⟩ : ∃ x, xs[0]? = some x := ⟨_, List.getElem?_eq_getElem hn⟩
    have hc0 := h3 0 x hx 0 _ rfl
    obtain rfl : sp = none := by simpa [Addr.add] using World.cell?_spot hc0
    have hb0 := World.block_lt_of_cell? _ _ hc0
    refine ⟨b, off, rfl, by simpa [Addr.add] using hb0, fun i x hx j u hu => ?_⟩
    have e : ∀ j, Addr.add ⟨b, off, none⟩ j = ⟨b, off + j, none⟩ := fun j => by unfold Addr.add; split <;> simp_all
    rw [← e]
    exact h3 i x hx j u hu
end
theorem ruleTypes_ : RuleTypes Tryz.prog 80 :=
  ⟨_, _, _, 4, 5, 76, 78, 38, 3, 39, Tryz.underlying80, by kernel_rfl, Tryz.underlying4, Tryz.underlying5, Tryz.underlying76, by kernel_rfl, Tryz.underlying38, Tryz.underlying3,
    Tryz.underlying78, by kernel_rfl, Tryz.underlying39, by kernel_rfl, by kernel_rfl, by kernel_rfl, by kernel_rfl, by kernel_rfl, by kernel_rfl, by kernel_rfl, by kernel_rfl⟩
theorem doTypes : DoTypes Tryz.prog 47 :=
  ⟨_, _, _, 5, 3, 41, 45, 25, 42, 43, 80, 38, 39, Tryz.underlying47, by kernel_rfl,
    Tryz.underlying5, Tryz.underlying3, Tryz.underlying41, by kernel_rfl, by kernel_rfl, by kernel_rfl, Tryz.underlying45, by kernel_rfl, Tryz.underlying42, Tryz.underlying43, Tryz.underlying38, Tryz.underlying39,
    Tryz.underlying25, ruleTypes_, by kernel_rfl, by kernel_rfl, by kernel_rfl, by kernel_rfl, by kernel_rfl, by kernel_rfl, by kernel_rfl, by kernel_rfl, by kernel_rfl, by kernel_rfl⟩
end Au
end Go.Proofs.YtcjppfggllbbeaaGreatDoor
