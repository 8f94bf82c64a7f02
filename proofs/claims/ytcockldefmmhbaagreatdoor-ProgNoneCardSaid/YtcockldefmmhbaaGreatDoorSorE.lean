/- sort.order2_func, median_func, medianAdjacent_func, choosePivot_func. -/
import Derived.Test.YtcockldefmmhbaaGreatDoorSorA
import Derived.Test.YtcockldefmmhbaaGreatDoorJ3
import Derived.Test.YtcockldefmmhbaaGreatDoorProg
import Derived.Sort.LotD4
set_option linter.unusedVariables false
set_option linter.unusedSimpArgs false
set_option maxRecDepth 100000
namespace Go.Proofs.YtcockldefmmhbaaGreatDoor
open Go.ChangeShapes Go.WideShapes Go.ChangeAt Go.RowKit Go.Mtl Go.Lib
namespace So
open Go.Sort (Hint order2 median medianAdjacent choosePivot hintCode)
section
variable {α : Type} {A : World → Array α → Prop} {m : Nat} {g : Nat} {lb : Array Value} {sf : Nat} {sb : Array Value} {W We : World} {d : Array α} {x p s : Nat}
/-- The number of exchanges, in a box laid since. -/
def Cnt (m p s : Nat) (W : World) : Prop := W.heap[p]? = some (.cells #[.int .i64 (s : Int)] 3 (0, 0)) ∧ m ≤ p
theorem Cnt.next {p s : Nat} {W W' : World} (h : Cnt m p s W) (hb : Below W.heap.size W W') : Cnt m p s W' := ⟨(hb.block _ (Array.getElem?_eq_some_iff.1 h.1).1).trans h.1, h.2⟩
theorem Cnt.inb {p s : Nat} {W : World} (h : Cnt m p s W) : p < W.heap.size := (Array.getElem?_eq_some_iff.1 h.1).1
/-- What the walks of the choice keep: the row, the box of the two functions, the count. -/
structure Piv (A : World → Array α → Prop) (m : Nat) (lb sb : Array Value) (g sf : Nat) (We : World) (x p s : Nat) (W : World) (d : Array α) : Prop where
  row : A W d
  box : W.heap[x]? = some (.cells #[.func (.func g) #[] lb, .func (.func sf) #[] sb] 242 (0, 0))
  cnt : Cnt m p s W
  ne : x ≠ p
  bar : Bar p We W
theorem Piv.turn (H : Piv A m lb sb g sf We x p s W d) {W' : World} {s' : Nat} (ha : A W' d) (hc : Cnt m p s' W') (hb : Bar p W W') : Piv A m lb sb g sf We x p s' W' d :=
  ⟨ha, hb.heap H.box H.ne, hc, H.ne, H.bar.trans hb⟩
theorem Piv.c0 (H : Piv A m lb sb g sf We x p s W d) : W.cell? ⟨x, 0, none⟩ = some (.func (.func g) #[] lb) := by simp [World.cell?, H.box]
theorem Piv.c1 (H : Piv A m lb sb g sf We x p s W d) : W.cell? ⟨x, 1, none⟩ = some (.func (.func sf) #[] sb) := by simp [World.cell?, H.box]
end
section
variable {α : Type} [Inhabited α] {A : World → Array α → Prop} {b m n : Nat} {lt : α → α → Bool} {g : Nat} {lb : Array Value} {sf : Nat} {sb : Array Value} {W : World} {d : Array α}
section
variable {We : World} {x p s : Nat}
theorem Piv.start (K : SortK Tryz.prog A b m n lt g lb sf sb) (h : A W d) (hc : Cnt m p s W) : Piv A m lb sb g sf W W.heap.size p s (W.alloc (.cells #[.func (.func g) #[] lb, .func (.func sf) #[] sb] 242)) d :=
  ⟨K.next h ((Below.refl _ W).alloc (Nat.le_refl _) _), heap_alloc_new W _, hc.next ((Below.refl _ W).alloc (Nat.le_refl _) _), by have := hc.inb; omega, Bar.of_below ((Below.refl _ W).alloc (Nat.le_refl _) _)⟩
theorem Piv.next (H : Piv A m lb sb g sf We x p s W d) (K : SortK Tryz.prog A b m n lt g lb sf sb) {W' : World} (hb : Below W.heap.size W W') : Piv A m lb sb g sf We x p s W' d :=
  ⟨K.next H.row hb, (hb.block _ (Array.getElem?_eq_some_iff.1 H.box).1).trans H.box, H.cnt.next hb, H.ne, H.bar.next hb⟩
end
set_option maxHeartbeats 2000000 in
theorem order2_any (K : SortK Tryz.prog A b m n lt g lb sf sb) (h : A W d) (i j p s i2 j2 s2 : Nat) (hc : Cnt m p s W) (hs : s < 1000) (hi : i < n) (hj : j < n) (hr : order2 lt d i j s = (i2, j2, s2)) :
    Calls Tryz.prog 295 #[.agg #[.func (.func g) #[] lb, .func (.func sf) #[] sb], .int .i64 i, .int .i64 j, .pointer (some ⟨p, 0, none⟩)] W fun e w' => e = .returned (.tuple #[.int .i64 (i2 : Nat), .int .i64 (j2 : Nat)]) ∧ A w' d ∧ Cnt m p s2 w' ∧ Bar p W w' := by
  have HB := Lib.hid (Piv.start K h hc)
  have c0 := HB.out.c0
  have eg := K.enters
  have hl := K.less j i HB.out.row hj hi
  clear h hc
  unfold order2 at hr
  cases hlv : lt d[j]! d[i]! with
  | true =>
    rw [hlv, if_pos rfl] at hr
    injection hr with r1 r2
    injection r2 with r2 r3
    subst r1 r2 r3
    rw [hlv] at hl
    go_enter Tryz.func295, Tryz.ntmps295
    go_wp2_with (go_at_fn g; refine hl.mono ?_; rintro e w2 ⟨rfl, hb⟩; have HB2 := Lib.hid (HB.out.next K hb); have pc := (one_cell HB2.out.cnt.1).1; have pf := (one_cell HB2.out.cnt.1).2; clear hb c0)
    go_ret2
    exact ⟨rfl, K.other HB2.out.row HB2.out.cnt.2 (Bar.set _ _ _), ⟨one_set _ HB2.out.cnt.1, HB2.out.cnt.2⟩, HB2.out.bar.trans (Bar.set _ _ _)⟩
  | false =>
    rw [hlv, if_neg (by simp)] at hr
    injection hr with r1 r2
    injection r2 with r2 r3
    subst r1 r2 r3
    rw [hlv] at hl
    go_enter Tryz.func295, Tryz.ntmps295
    go_wp2_with (go_at_fn g; refine hl.mono ?_; rintro e w2 ⟨rfl, hb⟩; have HB2 := Lib.hid (HB.out.next K hb); clear hb c0)
    go_ret2
    exact ⟨rfl, HB2.out.row, HB2.out.cnt, HB2.out.bar⟩
theorem order2_in {d : Array α} {i j s i2 j2 s2 : Nat} (hr : order2 lt d i j s = (i2, j2, s2)) (hi : i < n) (hj : j < n) : i2 < n ∧ j2 < n ∧ s2 ≤ s + 1 := by
  unfold order2 at hr
  split at hr
  · injection hr with r1 r2; injection r2 with r2 r3; omega
  · injection hr with r1 r2; injection r2 with r2 r3; omega
theorem median_in {d : Array α} {i j k s r s2 : Nat} (hr : median lt d i j k s = (r, s2)) (hi : i < n) (hj : j < n) (hk : k < n) : r < n ∧ s2 ≤ s + 3 := by
  obtain ⟨a1, b1, s1, e1⟩ : ∃ a1 b1 s1, order2 lt d i j s = (a1, b1, s1) := ⟨_, _, _, rfl⟩
  obtain ⟨b2, c2, s3, e2⟩ : ∃ b2 c2 s3, order2 lt d b1 k s1 = (b2, c2, s3) := ⟨_, _, _, rfl⟩
  obtain ⟨a3, b3, s4, e3⟩ : ∃ a3 b3 s4, order2 lt d a1 b2 s3 = (a3, b3, s4) := ⟨_, _, _, rfl⟩
  have h1 := order2_in e1 hi hj
  have h2 := order2_in e2 h1.2.1 hk
  have h3 := order2_in e3 h1.1 h2.1
  unfold median at hr
  simp only [e1, e2, e3] at hr
  injection hr with r1 r2
  omega
set_option maxHeartbeats 2000000 in
theorem median_any (K : SortK Tryz.prog A b m n lt g lb sf sb) (h : A W d) (i j k p s r s5 : Nat) (hc : Cnt m p s W) (hs : s < 900) (hi : i < n) (hj : j < n) (hk : k < n) (hr : median lt d i j k s = (r, s5)) :
    Calls Tryz.prog 274 #[.agg #[.func (.func g) #[] lb, .func (.func sf) #[] sb], .int .i64 i, .int .i64 j, .int .i64 k, .pointer (some ⟨p, 0, none⟩)] W fun e w' => e = .returned (.int .i64 (r : Nat)) ∧ A w' d ∧ Cnt m p s5 w' ∧ Bar p W w' := by
  obtain ⟨a1, b1, s1, e1⟩ : ∃ a1 b1 s1, order2 lt d i j s = (a1, b1, s1) := ⟨_, _, _, rfl⟩
  obtain ⟨b2, c2, s3, e2⟩ : ∃ b2 c2 s3, order2 lt d b1 k s1 = (b2, c2, s3) := ⟨_, _, _, rfl⟩
  obtain ⟨a3, b3, s4, e3⟩ : ∃ a3 b3 s4, order2 lt d a1 b2 s3 = (a3, b3, s4) := ⟨_, _, _, rfl⟩
  have h1 := order2_in e1 hi hj
  have h2 := order2_in e2 h1.2.1 hk
  have h3 := order2_in e3 h1.1 h2.1
  unfold median at hr
  simp only [e1, e2, e3] at hr
  injection hr with r1 r2
  subst r1 r2
  have HB := Lib.hid (Piv.start K h hc)
  have c0 := HB.out.c0
  have c1 := HB.out.c1
  clear h hc
  go_enter Tryz.func274, Tryz.ntmps274
  go_wp2_with fail
  go_at_call 295
  refine (order2_any K HB.out.row i j p s a1 b1 s1 HB.out.cnt (by omega) hi hj e1).mono ?_
  rintro e w1 ⟨rfl, ha, hcn, hb⟩
  have HB1 := Lib.hid (HB.out.turn ha hcn hb)
  clear ha hcn hb c0 c1 HB
  have c0 := HB1.out.c0
  have c1 := HB1.out.c1
  go_wp2_with fail
  go_at_call 295
  refine (order2_any K HB1.out.row b1 k p s1 b2 c2 s3 HB1.out.cnt (by omega) h1.2.1 hk e2).mono ?_
  rintro e w2 ⟨rfl, ha, hcn, hb⟩
  have HB2 := Lib.hid (HB1.out.turn ha hcn hb)
  clear ha hcn hb c0 c1 HB1
  have c0 := HB2.out.c0
  have c1 := HB2.out.c1
  go_wp2_with fail
  go_at_call 295
  refine (order2_any K HB2.out.row a1 b2 p s3 a3 b3 s4 HB2.out.cnt (by omega) h1.1 h2.1 e3).mono ?_
  rintro e w3 ⟨rfl, ha, hcn, hb⟩
  have HB3 := Lib.hid (HB2.out.turn ha hcn hb)
  clear ha hcn hb c0 c1 HB2
  go_wp2_with fail
  go_ret
  exact ⟨rfl, HB3.out.row, HB3.out.cnt, HB3.out.bar⟩
set_option maxHeartbeats 2000000 in
theorem medianAdjacent_any (K : SortK Tryz.prog A b m n lt g lb sf sb) (h : A W d) (i p s r s5 : Nat) (hc : Cnt m p s W) (hs : s < 900) (h0 : 0 < i) (hi : i + 1 < n) (hr : medianAdjacent lt d i s = (r, s5)) :
    Calls Tryz.prog 273 #[.agg #[.func (.func g) #[] lb, .func (.func sf) #[] sb], .int .i64 i, .pointer (some ⟨p, 0, none⟩)] W fun e w' => e = .returned (.int .i64 (r : Nat)) ∧ A w' d ∧ Cnt m p s5 w' ∧ Bar p W w' := by
  have HB := Lib.hid (Piv.start K h hc)
  have c0 := HB.out.c0
  have c1 := HB.out.c1
  have hsm := K.small
  clear h hc
  have hm := median_any K HB.out.row (i - 1) i (i + 1) p s r s5 HB.out.cnt hs (by omega) (by omega) hi hr
  rw [show ((i - 1 : Nat) : Int) = (i : Int) - 1 by omega, show ((i + 1 : Nat) : Int) = (i : Int) + 1 by omega] at hm
  go_enter Tryz.func273, Tryz.ntmps273
  go_wp2_with fail
  go_at_call 274
  refine hm.mono ?_
  rintro e w3 ⟨rfl, ha, hcn, hb⟩
  have HB3 := Lib.hid (HB.out.turn ha hcn hb)
  clear ha hcn hb c0 c1 HB hm
  go_wp2_with fail
  go_ret
  exact ⟨rfl, HB3.out.row, HB3.out.cnt, HB3.out.bar⟩
theorem medianAdjacent_in {d : Array α} {i s r s2 : Nat} (hr : medianAdjacent lt d i s = (r, s2)) (h0 : 0 < i) (hi : i + 1 < n) : r < n ∧ s2 ≤ s + 3 := median_in hr (by omega) (by omega) hi
theorem Bar.to_below {p k : Nat} {w w' : World} (h : Bar p w w') (hp : k ≤ p) (hk : k ≤ w.heap.size) : Below k w w' := ⟨h.os, h.tape, h.output, h.size, fun j hj => h.block j (by omega) (by omega)⟩
theorem choose_is {d : Array α} {lo hi q r s : Nat} (h12 : 12 < hi - lo) (hq : (hi - lo) / 4 = q) (hr : (if hi - lo ≥ 50 then median lt d (medianAdjacent lt d (lo + q) 0).1 (medianAdjacent lt d (lo + q * 2) (medianAdjacent lt d (lo + q) 0).2).1 (medianAdjacent lt d (lo + q * 3) (medianAdjacent lt d (lo + q * 2) (medianAdjacent lt d (lo + q) 0).2).2).1 (medianAdjacent lt d (lo + q * 3) (medianAdjacent lt d (lo + q * 2) (medianAdjacent lt d (lo + q) 0).2).2).2 else median lt d (lo + q) (lo + q * 2) (lo + q * 3) 0) = (r, s)) :
    choosePivot lt d lo hi = (r, if s = 0 then Hint.increasing else if s = 12 then Hint.decreasing else Hint.unknown) := by
  unfold choosePivot
  simp only [hq, Nat.mul_one]
  rw [if_pos (show hi - lo ≥ 8 by omega)]
  by_cases h50 : hi - lo ≥ 50
  · rw [if_pos h50] at hr
    rw [if_pos h50, hr]
  · rw [if_neg h50] at hr
    rw [if_neg h50, hr]
set_option maxHeartbeats 4000000 in
theorem choosePivot_any (K : SortK Tryz.prog A b m n lt g lb sf sb) (h : A W d) (lo hi r : Nat) (c : Hint) (h12 : 12 < hi - lo) (hhi : hi ≤ n) (hr : choosePivot lt d lo hi = (r, c)) :
    Calls Tryz.prog 238 #[.agg #[.func (.func g) #[] lb, .func (.func sf) #[] sb], .int .i64 lo, .int .i64 hi] W fun e w' => e = .returned (.tuple #[.int .i64 (r : Nat), .int .i64 (hintCode c)]) ∧ Below W.heap.size W w' := by
  have hsm := K.small
  obtain ⟨q, hq⟩ : ∃ q, (hi - lo) / 4 = q := ⟨_, rfl⟩
  have hqi : ((hi : Int) - (lo : Int)).tdiv 4 = (q : Int) := by
    rw [show ((hi : Int) - (lo : Int)) = ((hi - lo : Nat) : Int) by omega, Int.tdiv_eq_ediv_of_nonneg (by omega)]
    omega
  have hq1 : 3 ≤ q := by omega
  have hq2 : lo + q * 4 ≤ hi := by omega
  obtain ⟨W1, hW1⟩ : ∃ W1, W1 = (W.alloc (.cells #[.func (.func g) #[] lb, .func (.func sf) #[] sb] 242)).alloc (.cells #[.int .i64 0] 3) := ⟨_, rfl⟩
  have hb1 : Below W.heap.size W W1 := by rw [hW1]; exact ((Below.refl _ W).alloc (Nat.le_refl _) _).alloc (by simp) _
  have hm := K.at_ h
  have HB : Hid (Piv A m lb sb g sf W1 W.heap.size (W.heap.size + 1) 0 W1 d) := by
    refine ⟨K.next h hb1, ?_, ⟨?_, by omega⟩, by omega, Bar.refl _ _⟩
    · rw [hW1]; exact (Below.heap_alloc _ _ _ (by simp)).trans (heap_alloc_new W _)
    · rw [hW1]
      have := heap_alloc_new (W.alloc (.cells #[.func (.func g) #[] lb, .func (.func sf) #[] sb] 242)) (.cells #[.int .i64 0] 3)
      rwa [World.size_alloc] at this
  have HB1 := Lib.hid hb1
  have c0 := HB.out.c0
  have c1 := HB.out.c1
  clear h hb1
  have FIN : Hid (∀ (s5 : Nat) (w5 : World), Piv A m lb sb g sf W1 W.heap.size (W.heap.size + 1) s5 w5 d → Below W.heap.size W w5) := fun s5 w5 H => HB1.out.trans (Bar.to_below H.bar (by omega) HB1.out.size)
  by_cases h50 : 50 ≤ hi - lo
  · obtain ⟨ri, si, ei⟩ : ∃ ri si, medianAdjacent lt d (lo + q) 0 = (ri, si) := ⟨_, _, rfl⟩
    obtain ⟨rj, sj, ej⟩ : ∃ rj sj, medianAdjacent lt d (lo + q * 2) si = (rj, sj) := ⟨_, _, rfl⟩
    obtain ⟨rk, sk, ek⟩ : ∃ rk sk, medianAdjacent lt d (lo + q * 3) sj = (rk, sk) := ⟨_, _, rfl⟩
    obtain ⟨rm, sm, em⟩ : ∃ rm sm, median lt d ri rj rk sk = (rm, sm) := ⟨_, _, rfl⟩
    have hc := choose_is (lt := lt) (d := d) (r := rm) (s := sm) h12 hq (by rw [if_pos (show hi - lo ≥ 50 from h50), ei]; simp only; rw [ej]; simp only; rw [ek]; exact em)
    rw [hr] at hc
    injection hc with hc1 hc2
    subst hc1
    have bi := medianAdjacent_in (n := n) ei (by omega) (by omega)
    have bj := medianAdjacent_in (n := n) ej (by omega) (by omega)
    have bk := medianAdjacent_in (n := n) ek (by omega) (by omega)
    have m1 := medianAdjacent_any K HB.out.row (lo + q) (W.heap.size + 1) 0 ri si HB.out.cnt (by omega) (by omega) (by omega) ei
    rw [show ((lo + q : Nat) : Int) = (lo : Int) + (q : Int) by omega] at m1
    go_enter Tryz.func238, Tryz.ntmps238
    go_wp2_with fail
    simp only [← hW1]
    go_at_call 273
    refine m1.mono ?_
    rintro e w1 ⟨rfl, ha, hcn, hb⟩
    have HB2 := Lib.hid (HB.out.turn ha hcn hb)
    clear ha hcn hb c0 c1 m1 HB
    have c0 := HB2.out.c0
    have c1 := HB2.out.c1
    have mm := medianAdjacent_any K HB2.out.row (lo + q * 2) (W.heap.size + 1) si rj sj HB2.out.cnt (by omega) (by omega) (by omega) ej
    rw [show ((lo + q * 2 : Nat) : Int) = (lo : Int) + (q : Int) * 2 by omega] at mm
    go_wp2_with fail
    go_at_call 273
    refine mm.mono ?_
    rintro e w1 ⟨rfl, ha, hcn, hb⟩
    have HB3 := Lib.hid (HB2.out.turn ha hcn hb)
    clear ha hcn hb c0 c1 mm HB2
    have c0 := HB3.out.c0
    have c1 := HB3.out.c1
    have mm := medianAdjacent_any K HB3.out.row (lo + q * 3) (W.heap.size + 1) sj rk sk HB3.out.cnt (by omega) (by omega) (by omega) ek
    rw [show ((lo + q * 3 : Nat) : Int) = (lo : Int) + (q : Int) * 3 by omega] at mm
    go_wp2_with fail
    go_at_call 273
    refine mm.mono ?_
    rintro e w1 ⟨rfl, ha, hcn, hb⟩
    have HB4 := Lib.hid (HB3.out.turn ha hcn hb)
    clear ha hcn hb c0 c1 mm HB3
    have c0 := HB4.out.c0
    have c1 := HB4.out.c1
    have mm := median_any K HB4.out.row ri rj rk (W.heap.size + 1) sk r sm HB4.out.cnt (by omega) bi.1 bj.1 bk.1 em
    go_wp2_with fail
    go_at_call 274
    refine mm.mono ?_
    rintro e w1 ⟨rfl, ha, hcn, hb⟩
    have HF := Lib.hid (HB4.out.turn ha hcn hb)
    clear ha hcn hb c0 c1 mm HB4
    have c0 := HF.out.c0
    have c1 := HF.out.c1
    obtain ⟨pc, -⟩ := one_cell HF.out.cnt.1
    have HFIN := Lib.hid (FIN.out _ _ HF.out)
    clear FIN HB1 HF
    rcases Nat.eq_zero_or_pos sm with hz | hz
    · subst hz
      rw [if_pos rfl] at hc2
      subst hc2
      go_wp2_with fail
      go_ret2
      exact ⟨rfl, HFIN.out⟩
    · have z0 : ((sm : Int) == 0) = false := by rw [beq_eq_false_iff_ne]; omega
      rw [if_neg (by omega)] at hc2
      by_cases ht : sm = 12
      · subst ht
        rw [if_pos rfl] at hc2
        subst hc2
        go_wp2_with fail
        go_ret2
        exact ⟨rfl, HFIN.out⟩
      · have z12 : ((sm : Int) == 12) = false := by rw [beq_eq_false_iff_ne]; omega
        rw [if_neg ht] at hc2
        subst hc2
        go_wp2_with fail
        go_ret2
        exact ⟨rfl, HFIN.out⟩
  · obtain ⟨rm, sm, em⟩ : ∃ rm sm, median lt d (lo + q) (lo + q * 2) (lo + q * 3) 0 = (rm, sm) := ⟨_, _, rfl⟩
    have hc := choose_is (lt := lt) (d := d) (r := rm) (s := sm) h12 hq (by rw [if_neg (show ¬ hi - lo ≥ 50 from h50)]; exact em)
    rw [hr] at hc
    injection hc with hc1 hc2
    subst hc1
    have mm := median_any K HB.out.row (lo + q) (lo + q * 2) (lo + q * 3) (W.heap.size + 1) 0 r sm HB.out.cnt (by omega) (by omega) (by omega) (by omega) em
    rw [show ((lo + q : Nat) : Int) = (lo : Int) + (q : Int) by omega, show ((lo + q * 2 : Nat) : Int) = (lo : Int) + (q : Int) * 2 by omega, show ((lo + q * 3 : Nat) : Int) = (lo : Int) + (q : Int) * 3 by omega] at mm
    go_enter Tryz.func238, Tryz.ntmps238
    go_wp2_with fail
    simp only [← hW1]
    go_at_call 274
    refine mm.mono ?_
    rintro e w1 ⟨rfl, ha, hcn, hb⟩
    have HF := Lib.hid (HB.out.turn ha hcn hb)
    clear ha hcn hb c0 c1 mm HB
    have c0 := HF.out.c0
    have c1 := HF.out.c1
    obtain ⟨pc, -⟩ := one_cell HF.out.cnt.1
    have HFIN := Lib.hid (FIN.out _ _ HF.out)
    clear FIN HB1 HF
    rcases Nat.eq_zero_or_pos sm with hz | hz
    · subst hz
      rw [if_pos rfl] at hc2
      subst hc2
      go_wp2_with fail
      go_ret2
      exact ⟨rfl, HFIN.out⟩
    · have z0 : ((sm : Int) == 0) = false := by rw [beq_eq_false_iff_ne]; omega
      rw [if_neg (by omega)] at hc2
      by_cases ht : sm = 12
      · subst ht
        rw [if_pos rfl] at hc2
        subst hc2
        go_wp2_with fail
        go_ret2
        exact ⟨rfl, HFIN.out⟩
      · have z12 : ((sm : Int) == 12) = false := by rw [beq_eq_false_iff_ne]; omega
        rw [if_neg ht] at hc2
        subst hc2
        go_wp2_with fail
        go_ret2
        exact ⟨rfl, HFIN.out⟩
end
end So
end Go.Proofs.YtcockldefmmhbaaGreatDoor
