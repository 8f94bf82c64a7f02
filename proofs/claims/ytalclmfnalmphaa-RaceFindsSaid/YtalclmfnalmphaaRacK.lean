/- Layer 24: short, awake. -/
import Derived.Test.YtalclmfnalmphaaRacJ
set_option linter.unusedVariables false
set_option linter.unusedSimpArgs false
set_option maxRecDepth 100000
namespace Go.Proofs.Ytalclmfnalmphaa
open Go.ChangeShapes Go.WideShapes Go.ChangeAt Go.RowKit Go.Mtl Go.Lib
namespace Rc
open RcM
theorem short_any (A0 : Option Addr) (n c : Nat) (hc : n ≤ c) (hm : c ≤ 9223372036854775807) (w : World) : Calls Try.prog 6 #[.slice A0 n c] w fun e w' => e = .returned (.slice A0 (min n 60) c) ∧ Below w.heap.size w w' := by
  by_cases h : 60 < n
  · rw [Nat.min_eq_right (by omega)]
    have d1 : decide ((n : Int) > 60) = true := by simp; omega
    go_in
    go_wp2_with fail
    go_ret
    exact ⟨rfl, Below.refl _ _⟩
  · rw [Nat.min_eq_left (by omega)]
    have d1 : decide ((n : Int) > 60) = false := by simp; omega
    go_in
    go_wp2_with fail
    go_ret
    exact ⟨rfl, Below.refl _ _⟩
/-- The first ones of a log. -/
theorem Lg.cut {w : World} {B : Nat} {A0 : Option Addr} {n c : Nat} {l : List A} (h : Rd w B 3 n (.slice A0 n c) (avs l)) (hn : l.length = n) : Rd w B 3 (min n 60) (.slice A0 (min n 60) c) (avs (l.take 60)) := by
  obtain ⟨A', c', e, h1, h2, h3, h4⟩ := h
  injection e with e1 e2 e3
  subst e1 e3
  have hl : (l.take 60).length = min n 60 := by rw [List.length_take, hn]; omega
  refine ⟨A0, c, rfl, by omega, h2, by rw [avs_len, hl], fun hp => ?_⟩
  obtain ⟨b, off, e, hb, hcell⟩ := h4 (by omega)
  refine ⟨b, off, e, hb, fun j u hu => hcell j u ?_⟩
  have e2 : avs l = avs (l.take 60) ++ avs (l.drop 60) := by
    unfold avs
    rw [← List.flatMap_append, List.take_append_drop]
  rw [e2, List.getElem?_append_left (List.getElem?_eq_some_iff.1 hu).1]
  exact hu
/-! The fixed logs. -/
def one : List A := [⟨0, 6, 2⟩, ⟨0, 2, 1⟩, ⟨1, 1, 1⟩, ⟨1, 6, 2⟩]
def two : List A := [⟨0, 6, 2⟩, ⟨1, 6, 2⟩]
theorem one_hb : Hb (fn one) 0 3 := by
  have h1 : Hb (fn one) 0 1 := .one (by omega) (.inl rfl)
  have h2 : Hb (fn one) 1 2 := .one (by omega) (.inr ⟨rfl, .inl ⟨rfl, rfl⟩⟩)
  have h3 : Hb (fn one) 2 3 := .one (by omega) (.inl rfl)
  exact (h1.trans h2).trans h3
theorem one_tells {x d : Int} (h : Tells (fn one) one.length x d) : x = -1 ∧ d = 0 := by
  refine h.one (.inr (.inr ⟨no_bad fun i hi => ?_, fun j hj m hm => ?_, rfl, rfl⟩))
  · have : i = 0 ∨ i = 1 ∨ i = 2 ∨ i = 3 := by have : i < 4 := hi; omega
    rcases this with rfl | rfl | rfl | rfl <;> exact ⟨by decide, by decide⟩
  · obtain ⟨h1, h2, h3, h4, h5, h6⟩ := hm
    have hj4 : j < 4 := hj
    have e : m = 0 ∧ j = 3 := by
      have a : ∀ i, i < 4 → ((fn one i).k = 5 ∨ (fn one i).k = 6) → i = 0 ∨ i = 3 := fun i hi hk => by
        have : i = 0 ∨ i = 1 ∨ i = 2 ∨ i = 3 := by omega
        rcases this with rfl | rfl | rfl | rfl
        · exact .inl rfl
        · exact absurd hk (by decide)
        · exact absurd hk (by decide)
        · exact .inr rfl
      have a1 := a m (by omega) h3
      have a2 := a j hj4 h4
      omega
    obtain ⟨rfl, rfl⟩ := e
    exact h6 one_hb
theorem two_no : ¬ Hb (fn two) 0 1 := fun h => by
  obtain ⟨s, h1, h2, h3⟩ := hb_last.1 h
  have : s = 0 := by omega
  subst this
  rcases h2 with h2 | ⟨_, h2⟩
  · exact absurd h2 (by decide)
  · exact absurd h2 (by decide)
theorem two_tells {x d : Int} (h : Tells (fn two) two.length x d) : x = 1 ∧ d = 17 := by
  refine h.one (.inr (.inl ⟨no_bad fun i hi => ?_, ⟨1, by decide, rfl, ⟨0, by omega, rfl, .inr rfl, .inr rfl, .inl rfl, two_no⟩, fun j hj m hm => ?_⟩, rfl⟩))
  · have : i = 0 ∨ i = 1 := by have : i < 2 := hi; omega
    rcases this with rfl | rfl <;> exact ⟨by decide, by decide⟩
  · have := hm.1; omega
open Classical in
theorem one_before : beB (fn one) one.length 0 3 = true ∧ beB (fn one) one.length 3 0 = false := by
  unfold beB
  exact ⟨decide_eq_true ⟨by omega, by omega, by decide, one_hb⟩, decide_eq_false fun h => by omega⟩
theorem lg_blk {w : World} {B g : Nat} {l : List A} (H : Blk w g (avs l).toArray 32) (hg : g < B) (hl : l.length ≤ 1000 := by decide) : Lg w B (.slice (some ⟨g, 0, none⟩) l.length l.length) l :=
  ⟨some ⟨g, 0, none⟩, l.length, rfl, Nat.le_refl _, by omega, avs_len l, fun _ => ⟨g, 0, rfl, hg, fun j u hu => by rw [Nat.zero_add]; exact H.cell j u (by simpa using hu)⟩⟩
set_option maxHeartbeats 4000000 in
theorem awake_any (w : World) : Calls Try.prog 9 #[] w fun e w' => e = .returned (.bool true) ∧ Below w.heap.size w w' := by
  have HX1 := Lib.hid (Blk.box w (avs one).toArray 32)
  have HB1 := Lib.hid (below_box w (.cells (avs one).toArray 32))
  go_in
  go_wp2_with fail
  go_at_call 7
  refine (find_any _ one _ (lg_blk HX1.out HX1.out.lt)).mono ?_
  rintro e w2 ⟨x, d, rfl, ht, hb2⟩
  obtain ⟨rfl, rfl⟩ := one_tells ht
  have HB2 := Lib.hid (HB1.out.trans (hb2.mono HB1.out.size))
  have HX2 := Lib.hid (HX1.out.next hb2)
  clear ht hb2 HX1 HB1
  have hx3 : Blk ((w2.alloc (.cells (avs two).toArray 32)).drew) w.heap.size (avs one).toArray 32 := (HX2.out.alloc _).drew
  have HX3 := Lib.hid hx3
  have HY3 : Hid (Blk ((w2.alloc (.cells (avs two).toArray 32)).drew) w2.heap.size (avs two).toArray 32) := (Blk.box w2 _ _).drew
  have HB3 : Hid (Below w.heap.size w ((w2.alloc (.cells (avs two).toArray 32)).drew)) := (HB2.out.alloc HB2.out.size _).drew
  go_wp2_with fail
  refine wp_region_held_drew (S := (fun w' => w'.cell? ⟨w.heap.size, 0, none⟩ = some (.int .i64 0) ∧ w'.cell? ⟨w.heap.size, 1, none⟩ = some (.int .i64 6) ∧ w'.cell? ⟨w.heap.size, 2, none⟩ = some (.int .i64 2) ∧ w'.cell? ⟨w.heap.size, 9, none⟩ = some (.int .i64 1) ∧ w'.cell? ⟨w.heap.size, 10, none⟩ = some (.int .i64 6) ∧ w'.cell? ⟨w.heap.size, 11, none⟩ = some (.int .i64 2))) (by kernel_rfl) (⟨HX2.out.drew.cell 0 _ rfl, HX2.out.drew.cell 1 _ rfl, HX2.out.drew.cell 2 _ rfl, HX2.out.drew.cell 9 _ rfl, HX2.out.drew.cell 10 _ rfl, HX2.out.drew.cell 11 _ rfl⟩) (fun hH => ?_)
  refine wpAnyH_take (i := 0) (oi := ⟨some 17, _, _, _, _, _⟩) (v := ?v1) rfl (by kernel_rfl) (by kernel_rfl) (by kernel_rfl) (fun _ _ _ h => h) (Or.inl ⟨rfl, ?c1⟩) hH ?r1
  case c1 => (intro w' _; go_simp; (try with_reducible rfl))
  try simp only [Act.put, List.setIfInBounds_toArray, List.set_cons_zero, List.set_cons_succ]
  refine wpAnyH_take (i := 1) (oi := ⟨some 18, _, _, _, _, _⟩) (v := ?v2) rfl (by kernel_rfl) (by kernel_rfl) (by kernel_rfl) (fun _ _ _ h => h) (Or.inl ⟨rfl, ?c2⟩) hH ?r2
  case c2 => (intro w' _; go_simp; (try with_reducible rfl))
  try simp only [Act.put, List.setIfInBounds_toArray, List.set_cons_zero, List.set_cons_succ]
  refine wpAnyH_take (i := 2) (oi := ⟨some 19, _, _, _, _, _⟩) (v := ?v3) rfl (by kernel_rfl) (by kernel_rfl) (by kernel_rfl) (fun _ _ _ h => h) (Or.inl ⟨rfl, ?c3⟩) hH ?r3
  case c3 => (intro w' hS; (try dsimp only at hS); go_simp; (try with_reducible rfl))
  try simp only [Act.put, List.setIfInBounds_toArray, List.set_cons_zero, List.set_cons_succ]
  refine wpAnyH_take (i := 3) (oi := ⟨some 20, _, _, _, _, _⟩) (v := ?v4) rfl (by kernel_rfl) (by kernel_rfl) (by kernel_rfl) (fun _ _ _ h => h) (Or.inl ⟨rfl, ?c4⟩) hH ?r4
  case c4 => (intro w' _; go_simp; (try with_reducible rfl))
  try simp only [Act.put, List.setIfInBounds_toArray, List.set_cons_zero, List.set_cons_succ]
  refine wpAnyH_take (i := 4) (oi := ⟨some 21, _, _, _, _, _⟩) (v := ?v5) rfl (by kernel_rfl) (by kernel_rfl) (by kernel_rfl) (fun _ _ _ h => h) (Or.inl ⟨rfl, ?c5⟩) hH ?r5
  case c5 => (intro w' _; go_simp; (try with_reducible rfl))
  try simp only [Act.put, List.setIfInBounds_toArray, List.set_cons_zero, List.set_cons_succ]
  refine wpAnyH_take (i := 5) (oi := ⟨some 22, _, _, _, _, _⟩) (v := ?v6) rfl (by kernel_rfl) (by kernel_rfl) (by kernel_rfl) (fun _ _ _ h => h) (Or.inl ⟨rfl, ?c6⟩) hH ?r6
  case c6 => (intro w' hS; (try dsimp only at hS); go_simp; (try with_reducible rfl))
  try simp only [Act.put, List.setIfInBounds_toArray, List.set_cons_zero, List.set_cons_succ]
  refine wpAnyH_ready (rs := [6]) (by kernel_rfl) (by simp) (AllReadyH.cons rfl (fun K hK => ?_) (AllReadyH.nil))
  go_simp
  refine hK.out _ _ (⟨hx3.cell 0 _ rfl, hx3.cell 1 _ rfl, hx3.cell 2 _ rfl, hx3.cell 9 _ rfl, hx3.cell 10 _ rfl, hx3.cell 11 _ rfl⟩) (fun hH => ?_)
  clear hK K
  clear hH
  try simp only [Act.put, List.setIfInBounds_toArray, List.set_cons_zero, List.set_cons_succ]
  refine wpAnyH_ready (rs := [7]) (by kernel_rfl) (by simp) (AllReadyH.cons rfl (fun K hK => ?_) (AllReadyH.nil))
  go_simp
  go_at_call 7
  refine (find_any _ two _ (lg_blk HY3.out HY3.out.lt)).mono ?_
  rintro e w4 ⟨x, d, rfl, ht, hb4'⟩
  obtain ⟨rfl, rfl⟩ := two_tells ht
  have hx4 := HX3.out.next hb4'
  have hb4 : Below w.heap.size w w4 := HB3.out.trans (hb4'.mono HB3.out.size)
  refine hK.out _ _ (⟨hx4.cell 0 _ rfl, hx4.cell 1 _ rfl, hx4.cell 2 _ rfl, hx4.cell 9 _ rfl, hx4.cell 10 _ rfl, hx4.cell 11 _ rfl⟩) (fun hH => ?_)
  clear hK K
  clear hb4' ht
  try simp only [Act.put, List.setIfInBounds_toArray, List.set_cons_zero, List.set_cons_succ]
  refine wpAnyH_take (i := 8) (oi := ⟨some 16, _, _, _, _, _⟩) (v := ?v7) rfl (by kernel_rfl) (by kernel_rfl) (by kernel_rfl) (fun _ _ _ h => h) (Or.inl ⟨rfl, ?c7⟩) hH ?r7
  case c7 => (intro w' _; go_simp; (try with_reducible rfl))
  try simp only [Act.put, List.setIfInBounds_toArray, List.set_cons_zero, List.set_cons_succ]
  refine wpAnyH_take (i := 9) (oi := ⟨some 25, _, _, _, _, _⟩) (v := ?v8) rfl (by kernel_rfl) (by kernel_rfl) (by kernel_rfl) (fun _ _ _ h => h) (Or.inl ⟨rfl, ?c8⟩) hH ?r8
  case c8 => (intro w' _; go_simp; (try with_reducible rfl))
  try simp only [Act.put, List.setIfInBounds_toArray, List.set_cons_zero, List.set_cons_succ]
  refine wpAnyH_take (i := 10) (oi := ⟨some 26, _, _, _, _, _⟩) (v := ?v9) rfl (by kernel_rfl) (by kernel_rfl) (by kernel_rfl) (fun _ _ _ h => h) (Or.inl ⟨rfl, ?c9⟩) hH ?r9
  case c9 => (intro w' _; go_simp; (try with_reducible rfl))
  try simp only [Act.put, List.setIfInBounds_toArray, List.set_cons_zero, List.set_cons_succ]
  refine wpAnyH_take (i := 11) (oi := ⟨some 4, _, _, _, _, _⟩) (v := ?v10) rfl (by kernel_rfl) (by kernel_rfl) (by kernel_rfl) (fun _ _ _ h => h) (Or.inl ⟨rfl, ?c10⟩) hH ?r10
  case c10 => (intro w' _; go_simp; (try with_reducible rfl))
  try simp only [Act.put, List.setIfInBounds_toArray, List.set_cons_zero, List.set_cons_succ]
  refine wpAnyH_take (i := 12) (oi := ⟨some 5, _, _, _, _, _⟩) (v := ?v11) rfl (by kernel_rfl) (by kernel_rfl) (by kernel_rfl) (fun _ _ _ h => h) (Or.inl ⟨rfl, ?c11⟩) hH ?r11
  case c11 => (intro w' _; go_simp; (try with_reducible rfl))
  try simp only [Act.put, List.setIfInBounds_toArray, List.set_cons_zero, List.set_cons_succ]
  refine wpAnyH_done (by kernel_rfl) ?_ _
  have HB4 := Lib.hid hb4
  have HX4 := Lib.hid hx4
  clear hH hb4 hx4
  go_wp2_with fail
  go_at_call 10
  refine (before_any _ one w4 (lg_blk HX4.out HX4.out.lt) 0 3).mono ?_
  rintro e w5 ⟨rfl, hb5⟩
  rw [one_before.1]
  have HB5 := Lib.hid (HB4.out.trans (hb5.mono HB4.out.size))
  have HX5 := Lib.hid (HX4.out.next hb5)
  clear hb5
  go_wp2_with fail
  go_at_call 10
  refine (before_any _ one w5 (lg_blk HX5.out HX5.out.lt) 3 0).mono ?_
  rintro e w6 ⟨rfl, hb6⟩
  rw [one_before.2]
  have HB6 := Lib.hid (HB5.out.trans (hb6.mono HB5.out.size))
  clear hb6
  go_wp2_with fail
  go_ret
  exact ⟨rfl, HB6.out⟩
end Rc
end Go.Proofs.Ytalclmfnalmphaa
