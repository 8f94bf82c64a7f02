/- Layer 12: rules as cells; a rule that came in by value, and a slice of rules that came in: what their cells hold. Over any program. -/
import Derived.Test.YtgcnhbjoalemlaaGreatDoorJ14
import Derived.Lib.SmallJoins
import Derived.ChangeSame
import Derived.OpenShut
import Derived.Deep.Slices
import Derived.WalkKit
import Derived.ProofKit
import Derived.Below
import Derived.Lib.Hide
set_option linter.unusedVariables false
namespace Go.Mtl
open Go.ChangeShapes Go.WideShapes Go.RowKit Go.Deep
open Go.RulM (R)

/-- The cells of a rule. -/
def cellsR (r : R) : List Value := [.bool r.acc, .int .u8 (r.pr : Int), .int .u32 (r.sa : Int), .int .i64 r.sb, .int .u32 (r.da : Int), .int .i64 r.db, .int .u16 (r.sl : Int), .int .u16 (r.sh : Int), .int .u16 (r.dl : Int), .int .u16 (r.dh : Int)]
theorem cellsR_len (r : R) : (cellsR r).length = 10 := rfl
def cellsRs : List R → List Value
  | [] => []
  | r :: rs => cellsR r ++ cellsRs rs
theorem cellsRs_len : ∀ rs : List R, (cellsRs rs).length = rs.length * 10 := by
  intro rs
  induction rs with
  | nil => rfl
  | cons r rs ih => simp [cellsRs, cellsR_len, ih]; omega
theorem cellsRs_append : ∀ xs ys : List R, cellsRs (xs ++ ys) = cellsRs xs ++ cellsRs ys := by
  intro xs ys
  induction xs with
  | nil => rfl
  | cons r xs ih => simp [cellsRs, ih]
theorem cellsRs_at : ∀ (rs : List R) (i j : Nat) (r : R), rs[i]? = some r → j < 10 → (cellsRs rs)[i * 10 + j]? = (cellsR r)[j]? := by
  intro rs
  induction rs with
  | nil => intro i j r h; simp at h
  | cons q rs ih =>
    intro i j r h hj
    cases i with
    | zero =>
      simp at h; subst h
      show (cellsR q ++ cellsRs rs)[0 * 10 + j]? = _
      rw [List.getElem?_append_left (by rw [cellsR_len]; omega)]
      congr 1; omega
    | succ i =>
      show (cellsR q ++ cellsRs rs)[(i + 1) * 10 + j]? = _
      rw [List.getElem?_append_right (by rw [cellsR_len]; omega), cellsR_len, show (i + 1) * 10 + j - 10 = i * 10 + j by omega]
      exact ih i j r (by simpa using h) hj

section
variable {H : Type} {enc : TypeId × Value → H} {P : Program} {w : World} {base : Nat} {spare : Nat → Bool} {held : Bool}
/-- A struct of two one-cell integers, its two cells. -/
theorem trod_ints2 {t t1 t2 : TypeId} {k1 k2 : IntKind} {fs : Array Field} (hs : P.underlying t = some (.struct fs)) (hf : fs.toList.map (fun f => (f.type, f.offset)) = [(t1, 0), (t2, 1)])
    (h1 : P.underlying t1 = some (.int k1)) (h2 : P.underlying t2 = some (.int k2)) (c1 : P.cellsOf t1 = 1) (c2 : P.cellsOf t2 = 1) {n : Nat} {a b : Value} {x : DataW H × List MemPlace} (h : DataW.trod enc P w base spare held n t [a, b] = some x) :
    ∃ u v : Int, a = .int k1 u ∧ b = .int k2 v ∧ (Lit.int k1 u).wf = true ∧ (Lit.int k2 v).wf = true := by
  obtain ⟨ys, m, _, _, _, hyl, hg⟩ := DataW.trod_struct hs h
  obtain ⟨fl⟩ := fs
  obtain ⟨f0, f1, rfl⟩ : ∃ f0 f1, fl = [f0, f1] := by
    rcases fl with _ | ⟨f0, _ | ⟨f1, _ | ⟨f2, fl⟩⟩⟩
    · simp at hf
    · simp at hf
    · exact ⟨_, _, rfl⟩
    · simp at hf
  simp only [List.map_cons, List.map_nil, List.cons.injEq, Prod.mk.injEq, and_true] at hf
  obtain ⟨⟨e0, o0⟩, e1, o1⟩ := hf
  have hy : ys.length = 2 := hyl
  have g0 := hg 0 f0 rfl
  have g1 := hg 1 f1 rfl
  rw [e0, o0, c1, List.getElem?_eq_getElem (by omega)] at g0
  rw [e1, o1, c2, List.getElem?_eq_getElem (by omega)] at g1
  simp only [List.drop_zero, List.take_succ_cons, List.take_zero, List.drop_succ_cons] at g0 g1
  obtain ⟨u, eu, _, wu⟩ := DataW.trod_int h1 g0
  obtain ⟨v, ev, _, wv⟩ := DataW.trod_int h2 g1
  exact ⟨u, v, by simpa using eu, by simpa using ev, wu, wv⟩

/-- The types of a rule, of one program. -/
structure RuleTypes (P : Program) (t : TypeId) : Prop where
  ty : ∃ (fs fn fp : Array Field) (tb tu8 tn ts tu32 ti tu16 : TypeId), P.underlying t = some (.struct fs) ∧ fs.toList.map (fun f => (f.type, f.offset)) = [(tb, 0), (tu8, 1), (tn, 2), (tn, 4), (ts, 6), (ts, 8)] ∧
    P.underlying tb = some .bool ∧ P.underlying tu8 = some (.int .u8) ∧ P.underlying tn = some (.struct fn) ∧ fn.toList.map (fun f => (f.type, f.offset)) = [(tu32, 0), (ti, 1)] ∧ P.underlying tu32 = some (.int .u32) ∧ P.underlying ti = some (.int .i64) ∧
    P.underlying ts = some (.struct fp) ∧ fp.toList.map (fun f => (f.type, f.offset)) = [(tu16, 0), (tu16, 1)] ∧ P.underlying tu16 = some (.int .u16) ∧
    P.cellsOf t = 10 ∧ P.cellsOf tb = 1 ∧ P.cellsOf tu8 = 1 ∧ P.cellsOf tn = 2 ∧ P.cellsOf ts = 2 ∧ P.cellsOf tu32 = 1 ∧ P.cellsOf ti = 1 ∧ P.cellsOf tu16 = 1

theorem nat_of {z : Int} {m : Nat} (h : 0 ≤ z ∧ z ≤ m) : ∃ n : Nat, z = (n : Int) ∧ n ≤ m := ⟨z.toNat, by omega, by omega⟩
/-- The ten cells of a rule that was read. -/
theorem open_ten {t : TypeId} (T : RuleTypes P t) {n : Nat} {cs : List Value} (hl : cs.length = 10) {x : DataW H × List MemPlace} (h : DataW.trod enc P w base spare held n t cs = some x) : ∃ r : R, cs = cellsR r ∧ r.Ok := by
  obtain ⟨fs, fn, fp, tb, tu8, tn, ts, tu32, ti, tu16, hs, hf, hb, h8, hn, hnf, h32, hi, hp, hpf, h16, ct, cb, c8, cn, cp, c32, ci, c16⟩ := T.ty
  obtain ⟨ys, m, _, _, _, hyl, hg⟩ := DataW.trod_struct hs h
  obtain ⟨fl⟩ := fs
  obtain ⟨f0, f1, f2, f3, f4, f5, rfl⟩ : ∃ f0 f1 f2 f3 f4 f5, fl = [f0, f1, f2, f3, f4, f5] := by
    rcases fl with _ | ⟨f0, _ | ⟨f1, _ | ⟨f2, _ | ⟨f3, _ | ⟨f4, _ | ⟨f5, _ | ⟨f6, fl⟩⟩⟩⟩⟩⟩⟩
    · simp at hf
    · simp at hf
    · simp at hf
    · simp at hf
    · simp at hf
    · simp at hf
    · exact ⟨_, _, _, _, _, _, rfl⟩
    · simp at hf
  match cs, hl with
  | [v0, v1, v2, v3, v4, v5, v6, v7, v8, v9], _ =>
    simp only [List.map_cons, List.map_nil, List.cons.injEq, Prod.mk.injEq, and_true] at hf
    obtain ⟨⟨e0, o0⟩, ⟨e1, o1⟩, ⟨e2, o2⟩, ⟨e3, o3⟩, ⟨e4, o4⟩, e5, o5⟩ := hf
    have hy : ys.length = 6 := hyl
    have g0 := hg 0 f0 rfl
    have g1 := hg 1 f1 rfl
    have g2 := hg 2 f2 rfl
    have g3 := hg 3 f3 rfl
    have g4 := hg 4 f4 rfl
    have g5 := hg 5 f5 rfl
    rw [e0, o0, cb, List.getElem?_eq_getElem (by omega)] at g0
    rw [e1, o1, c8, List.getElem?_eq_getElem (by omega)] at g1
    rw [e2, o2, cn, List.getElem?_eq_getElem (by omega)] at g2
    rw [e3, o3, cn, List.getElem?_eq_getElem (by omega)] at g3
    rw [e4, o4, cp, List.getElem?_eq_getElem (by omega)] at g4
    rw [e5, o5, cp, List.getElem?_eq_getElem (by omega)] at g5
    simp only [List.drop_zero, List.take_succ_cons, List.take_zero, List.drop_succ_cons] at g0 g1 g2 g3 g4 g5
    obtain ⟨b, eb, _⟩ := DataW.trod_bool hb g0
    obtain ⟨p, ep, _, wp⟩ := DataW.trod_int h8 g1
    obtain ⟨a1, b1, rfl, rfl, wa1, wb1⟩ := trod_ints2 hn hnf h32 hi c32 ci g2
    obtain ⟨a2, b2, rfl, rfl, wa2, wb2⟩ := trod_ints2 hn hnf h32 hi c32 ci g3
    obtain ⟨a3, b3, rfl, rfl, wa3, wb3⟩ := trod_ints2 hp hpf h16 h16 c16 c16 g4
    obtain ⟨a4, b4, rfl, rfl, wa4, wb4⟩ := trod_ints2 hp hpf h16 h16 c16 c16 g5
    obtain rfl : v0 = .bool b := by simpa using eb
    obtain rfl : v1 = .int .u8 p := by simpa using ep
    obtain ⟨p, rfl, hp8⟩ := nat_of (m := 255) (by have := bounds_u8 wp; omega)
    obtain ⟨a1, rfl, ha1⟩ := nat_of (m := 4294967295) (by have := bounds_u32 wa1; omega)
    obtain ⟨a2, rfl, ha2⟩ := nat_of (m := 4294967295) (by have := bounds_u32 wa2; omega)
    obtain ⟨a3, rfl, ha3⟩ := nat_of (m := 65535) (by have := bounds_u16 wa3; omega)
    obtain ⟨b3, rfl, hb3⟩ := nat_of (m := 65535) (by have := bounds_u16 wb3; omega)
    obtain ⟨a4, rfl, ha4⟩ := nat_of (m := 65535) (by have := bounds_u16 wa4; omega)
    obtain ⟨b4, rfl, hb4⟩ := nat_of (m := 65535) (by have := bounds_u16 wb4; omega)
    have q1 := bounds_i64 wb1
    have q2 := bounds_i64 wb2
    exact ⟨⟨b, p, a1, b1, a2, b2, a3, b3, a4, b4⟩, rfl, ⟨by show p < _; omega, by show a1 < _; omega, ⟨by show _ ≤ b1; omega, by show b1 ≤ _; omega⟩, by show a2 < _; omega, ⟨by show _ ≤ b2; omega, by show b2 ≤ _; omega⟩, by show a3 < _; omega, by show b3 < _; omega, by show a4 < _; omega, by show b4 < _; omega⟩⟩
/-- A slice reads as these rules; where it is not empty it lies below block B. -/
def Rds (w : World) (B : Nat) (v : Value) (rs : List R) : Prop :=
  ∃ A cap, v = .slice A rs.length cap ∧ rs.length ≤ cap ∧ cap ≤ maxLen ∧ (0 < rs.length → ∃ b off, A = some ⟨b, off, none⟩ ∧ b < B ∧ ∀ j u, (cellsRs rs)[j]? = some u → w.cell? ⟨b, off + j, none⟩ = some u)
theorem add_plain' (b off j : Nat) : Addr.add ⟨b, off, none⟩ j = ⟨b, off + j, none⟩ := by unfold Addr.add; split <;> simp_all
theorem Rds.keep {w w' : World} {B : Nat} {v : Value} {rs : List R} (h : Rds w B v rs) (hk : ∀ p : Addr, p.block < B → w'.cell? p = w.cell? p) : Rds w' B v rs := by
  obtain ⟨A, cap, h1, h2, h3, h4⟩ := h
  refine ⟨A, cap, h1, h2, h3, fun hn => ?_⟩
  obtain ⟨b, off, e, hb, hc⟩ := h4 hn
  exact ⟨b, off, e, hb, fun j u hu => (hk _ hb).trans (hc j u hu)⟩
theorem Rds.mono {w : World} {B B' : Nat} {v : Value} {rs : List R} (h : Rds w B v rs) (hB : B ≤ B') : Rds w B' v rs := by
  obtain ⟨A, cap, h1, h2, h3, h4⟩ := h
  refine ⟨A, cap, h1, h2, h3, fun hn => ?_⟩
  obtain ⟨b, off, e, hb, hc⟩ := h4 hn
  exact ⟨b, off, e, by omega, hc⟩
theorem Rds.below {w w' : World} {v : Value} {rs : List R} (h : Rds w w.heap.size v rs) (hb : Below w.heap.size w w') : Rds w' w'.heap.size v rs :=
  (h.keep fun _ hp => hb.cell hp).mono hb.size
theorem Rds.nil (w : World) (B : Nat) : Rds w B (.slice none 0 0) [] := ⟨none, 0, rfl, Nat.le_refl _, Nat.zero_le _, fun h => absurd h (by simp)⟩
theorem Rds.len {w : World} {B : Nat} {v : Value} {rs : List R} (h : Rds w B v rs) : ∃ A c, v = .slice A rs.length c ∧ rs.length ≤ c ∧ c ≤ maxLen := by
  obtain ⟨A, cap, h1, h2, h3, _⟩ := h
  exact ⟨A, cap, h1, h2, h3⟩
/-- One of its rules: where its cells are. -/
theorem Rds.at_ {w : World} {B : Nat} {v : Value} {rs : List R} (h : Rds w B v rs) {k : Nat} {r : R} (hk : rs[k]? = some r) :
    ∃ b off cap, v = .slice (some ⟨b, off, none⟩) rs.length cap ∧ b < B ∧ ∀ j u, (cellsR r)[j]? = some u → w.cell? ⟨b, off + (k * 10 + j), none⟩ = some u := by
  obtain ⟨A, cap, h1, h2, h3, h4⟩ := h
  have hlt := (List.getElem?_eq_some_iff.1 hk).1
  obtain ⟨b, off, rfl, hb, hc⟩ := h4 (by omega)
  refine ⟨b, off, cap, h1, hb, fun j u hu => hc _ _ ?_⟩
  have hj : j < 10 := by have := (List.getElem?_eq_some_iff.1 hu).1; rwa [cellsR_len] at this
  rw [cellsRs_at rs k j r hk hj, hu]
theorem take_cells (rs : List R) (m j : Nat) (u : Value) (h : (cellsRs (rs.take m))[j]? = some u) : (cellsRs rs)[j]? = some u := by
  have e : cellsRs rs = cellsRs (rs.take m) ++ cellsRs (rs.drop m) := by rw [← cellsRs_append, List.take_append_drop]
  rw [e, List.getElem?_append_left (List.getElem?_eq_some_iff.1 h).1, h]
/-- Cut off behind the first m. -/
theorem Rds.front {w : World} {B : Nat} {A : Option Addr} {cap n : Nat} {rs : List R} (h : Rds w B (.slice A n cap) rs) (m : Nat) (hm : m ≤ rs.length) : Rds w B (.slice A m cap) (rs.take m) := by
  obtain ⟨A', cap', h1, h2, h3, h4⟩ := h
  injection h1 with e1 e2 e3
  subst e1 e3
  have hl : (rs.take m).length = m := by rw [List.length_take]; omega
  refine ⟨A, cap, by rw [hl], by omega, h3, fun hn => ?_⟩
  obtain ⟨b, off, e, hb, hc⟩ := h4 (by omega)
  exact ⟨b, off, e, hb, fun j u hu => hc j u (take_cells rs m j u hu)⟩
/-- A row of the call's own that holds them. -/
theorem Rds.of_own {w : World} {base0 T : Nat} {v : Value} {rs : List R} (h : w.ownsRow base0 T 10 v rs.length (cellsRs rs)) : Rds w w.heap.size v rs := by
  rcases h.2 with ⟨h1, h2⟩ | ⟨g, cap, cur, h1, h2, h3, h4, h5, h6, h7⟩
  · exact ⟨none, 0, by rw [h1, h2], by omega, Nat.zero_le _, fun hn => by omega⟩
  · refine ⟨_, cap, h1, h4, h5, fun hn => ⟨g, 0, rfl, (Array.getElem?_eq_some_iff.1 h3).1, fun j u hu => ?_⟩⟩
    have hj := (List.getElem?_eq_some_iff.1 hu).1
    rw [cell_of_row w g (0 + j) cur T (0, 0) h3, Nat.zero_add]
    have e : cur.toList.take (rs.length * 10) = cellsRs rs := h7
    rw [← e, List.getElem?_take] at hu
    split at hu
    · simpa using hu
    · cases hu
/-- A slice of rules that came in. -/
theorem open_rules {t e : TypeId} (T : RuleTypes P e) (ht : P.underlying t = some (.slice e)) {n : Nat} {A : Option Addr} {len cap : Nat} {d : DataW H} {p : List MemPlace}
    (h : DataW.Trod enc P w 0 (fun _ => true) true t (.slice A len cap) d p) : ∃ rs : List R, Rds w w.heap.size (.slice A len cap) rs ∧ ∀ r ∈ rs, r.Ok := by
  obtain ⟨fs, fn, fp, tb, tu8, tn, ts, tu32, ti, tu16, hs, _, _, _, _, _, _, _, _, _, _, ct, _⟩ := T.ty
  obtain ⟨fuel, hf⟩ := h
  rcases open_slice ht hf with ⟨hcs, _⟩ | ⟨a, l, c, m, n', D, Pl, hcs, hb, hl, hm, hmm, _, hi⟩
  · simp [Value.cells] at hcs
    obtain ⟨rfl, rfl, rfl⟩ := hcs
    exact ⟨[], Rds.nil _ _, fun r hr => by cases hr⟩
  · simp [Value.cells] at hcs
    obtain ⟨rfl, rfl, rfl⟩ := hcs
    simp at hmm
    subst hmm
    rw [ct] at hi
    have each : ∀ i, i < len → ∃ r : R, r.Ok ∧ ∀ j, j < 10 → w.cell? (a.add (i * 10 + j)) = (cellsR r)[j]? := by
      intro i hlt
      obtain ⟨cs', hc, htr⟩ := hi i (by omega)
      obtain ⟨_, hcl, hat⟩ := World.cells?_some hc
      obtain ⟨r, hr, ho⟩ := open_ten T hcl htr
      refine ⟨r, ho, fun j hj => ?_⟩
      rw [← hr, ← Go.Deep.add_add]
      exact hat j hj
    have all : ∀ k, k ≤ len → ∃ rs : List R, rs.length = k ∧ (∀ r ∈ rs, r.Ok) ∧ ∀ j u, (cellsRs rs)[j]? = some u → w.cell? (a.add j) = some u := by
      intro k
      induction k with
      | zero => intro _; exact ⟨[], rfl, (fun r hr => by cases hr), (fun j u hu => by simp [cellsRs] at hu)⟩
      | succ k ih =>
        intro hk
        obtain ⟨rs, h1, h2, h3⟩ := ih (by omega)
        obtain ⟨r, ho, hc⟩ := each k (by omega)
        refine ⟨rs ++ [r], by simp [h1], fun q hq => ?_, fun j u hu => ?_⟩
        · rcases List.mem_append.1 hq with hq | hq
          · exact h2 q hq
          · rw [List.mem_singleton.1 hq]; exact ho
        · rw [cellsRs_append] at hu
          by_cases hj : j < (cellsRs rs).length
          · rw [List.getElem?_append_left hj] at hu
            exact h3 j u hu
          · rw [List.getElem?_append_right (by omega), cellsRs_len, h1] at hu
            rw [cellsRs_len, h1] at hj
            have e2 : cellsRs [r] = cellsR r := by simp [cellsRs]
            rw [e2] at hu
            have hj2 : j - k * 10 < 10 := by have := (List.getElem?_eq_some_iff.1 hu).1; rwa [cellsR_len] at this
            have := hc (j - k * 10) hj2
            rw [show k * 10 + (j - k * 10) = j by omega, hu] at this
            exact this
    obtain ⟨rs, h1, h2, h3⟩ := all len (Nat.le_refl _)
    refine ⟨rs, ⟨some a, m, by rw [h1], by omega, hm, fun hn => ?_⟩, h2⟩
    obtain ⟨b, off, sp⟩ := a
    have h0 : ∃ u, (cellsRs rs)[0]? = some u := ⟨_, List.getElem?_eq_getElem (by rw [cellsRs_len]; omega)⟩
    obtain ⟨u0, hu0⟩ := h0
    obtain rfl : sp = none := by simpa [Addr.add] using World.cell?_spot (h3 0 u0 hu0)
    have hbk := World.block_lt_of_cell? _ _ (h3 0 u0 hu0)
    exact ⟨b, off, rfl, by simpa [Addr.add] using hbk, fun j u hu => by rw [← add_plain' b off j]; exact h3 j u hu⟩
end
end Go.Mtl
