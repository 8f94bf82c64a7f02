/- Layer 24: races, touch. (Written by wip/tools/mkRacD.py.) -/
import Derived.Test.YtalclmfnalmphaaRacC
set_option linter.unusedVariables false
set_option linter.unusedSimpArgs false
set_option maxRecDepth 100000
namespace Go.Proofs.Ytalclmfnalmphaa
open Go.ChangeShapes Go.WideShapes Go.ChangeAt Go.RowKit Go.Mtl Go.Lib
namespace Rc
open RcM
noncomputable def racesB (V : Vc) (x : A) (kn : Ck) : Bool := if x.k = 5 then excB (V.wr x.p) kn else if x.k = 6 then excB (V.wr x.p) kn || excB (V.rd x.p) kn else false
theorem racesB_iff {V : Vc} {x : A} {kn : Ck} : racesB V x kn = true ↔ races V x kn := by
  unfold racesB races
  split
  · rename_i h; rw [excB_iff]; constructor
    · exact fun e => .inl ⟨h, e⟩
    · rintro (⟨_, e⟩ | ⟨h2, _⟩)
      · exact e
      · omega
  split
  · rename_i h1 h; rw [Bool.or_eq_true, excB_iff, excB_iff]; constructor
    · exact fun e => .inr ⟨h, e⟩
    · rintro (⟨h2, _⟩ | ⟨_, e⟩)
      · omega
      · exact e
  · rename_i h1 h2
    constructor
    · intro e; cases e
    · rintro (⟨h, _⟩ | ⟨h, _⟩) <;> omega
set_option maxHeartbeats 4000000 in
theorem races_any {w : World} {p m1 m2 m3 m4 : Nat} {V : Vc} (H : Pa w p m1 m2 m3 m4 V) (x : A) (h0 : 0 ≤ x.t) (h1 : x.t ≤ 63) (kn : Ck) : Calls Try.prog 13 #[.pointer (some ⟨p, 0, none⟩), .agg (acc x), .agg (ckA kn)] w fun e w' => e = .returned (.bool (racesB V x kn)) ∧ Below w.heap.size w w' := by
  obtain ⟨t, k, pl⟩ := x
  dsimp only at h0 h1
  obtain ⟨tn, rfl⟩ : ∃ n : Nat, t = (n : Int) := ⟨t.toNat, by omega⟩
  have hb1 : Below w.heap.size w ((w.alloc (.cells (acc ⟨(tn : Int), k, pl⟩) 32)).alloc (.cells (ckA kn) 39)) := ((Below.refl _ w).alloc (Nat.le_refl _) _).alloc (by simp) _
  have HB1 := Lib.hid hb1
  have HX1 := Lib.hid ((Blk.box w (acc ⟨(tn : Int), k, pl⟩) 32).alloc (.cells (ckA kn) 39))
  have HR1 := Lib.hid (Blk.box1 w (.cells (acc ⟨(tn : Int), k, pl⟩) 32) (ckA kn) 39)
  have HP1 := Lib.hid (H.next hb1)
  clear H hb1
  by_cases k5 : k = 5
  · subst k5
    have HK : Hid (racesB V ⟨(tn : Int), 5, pl⟩ kn = excB (V.wr pl) kn) := by show _ = _; unfold racesB; rw [if_pos rfl]
    go_in
    go_wp2_with fail
    refine wp_region_held_drew (S := (fun w' => w'.cell? ⟨w.heap.size, 2, none⟩ = some (.int .i64 pl) ∧ Hid (Pa w' p m1 m2 m3 m4 V) ∧ w'.cell? ⟨p, 4099, none⟩ = some (.map (some m4)) ∧ w'.cell? ⟨p, 4098, none⟩ = some (.map (some m3)) ∧ Hid (Blk w' (w.heap.size + 1) (ckA kn) 39) ∧ Hid (Below w.heap.size w w'))) (by kernel_rfl) (⟨HX1.out.drew.cell 2 _ rfl, (show Hid _ from HP1.out.drew), HP1.out.drew.c4, HP1.out.drew.c3, (show Hid _ from HR1.out.drew), (show Hid _ from HB1.out.drew)⟩) (fun hH => ?_)
    refine wpAnyH_take (i := 0) (oi := ⟨some 11, _, _, _, _, _⟩) (v := ?v1) rfl (by kernel_rfl) (by kernel_rfl) (by kernel_rfl) (fun _ _ _ h => h) (Or.inl ⟨rfl, ?c1⟩) hH ?r1
    case c1 => (intro w' _; go_simp; (try with_reducible rfl))
    try simp only [Act.put, List.setIfInBounds_toArray, List.set_cons_zero, List.set_cons_succ]
    refine wpAnyH_take (i := 1) (oi := ⟨some 12, _, _, _, _, _⟩) (v := ?v2) rfl (by kernel_rfl) (by kernel_rfl) (by kernel_rfl) (fun _ _ _ h => h) (Or.inl ⟨rfl, ?c2⟩) hH ?r2
    case c2 => (intro w' _; go_simp; (try with_reducible rfl))
    try simp only [Act.put, List.setIfInBounds_toArray, List.set_cons_zero, List.set_cons_succ]
    refine wpAnyH_take (i := 2) (oi := ⟨some 13, _, _, _, _, _⟩) (v := ?v3) rfl (by kernel_rfl) (by kernel_rfl) (by kernel_rfl) (fun _ _ _ h => h) (Or.inl ⟨rfl, ?c3⟩) hH ?r3
    case c3 => (intro w' _; go_simp; (try with_reducible rfl))
    try simp only [Act.put, List.setIfInBounds_toArray, List.set_cons_zero, List.set_cons_succ]
    refine wpAnyH_take (i := 3) (oi := ⟨some 14, _, _, _, _, _⟩) (v := ?v4) rfl (by kernel_rfl) (by kernel_rfl) (by kernel_rfl) (fun _ _ _ h => h) (Or.inl ⟨rfl, ?c4⟩) hH ?r4
    case c4 => (intro w' hS; (try dsimp only at hS); go_simp; (try with_reducible rfl))
    try simp only [Act.put, List.setIfInBounds_toArray, List.set_cons_zero, List.set_cons_succ]
    refine wpAnyH_take (i := 4) (oi := ⟨some 15, _, _, _, _, _⟩) (v := ?v5) rfl (by kernel_rfl) (by kernel_rfl) (by kernel_rfl) (fun _ _ _ h => h) (Or.inl ⟨rfl, ?c5⟩) hH ?r5
    case c5 => (intro w' _; go_simp; (try with_reducible rfl))
    try simp only [Act.put, List.setIfInBounds_toArray, List.set_cons_zero, List.set_cons_succ]
    refine wpAnyH_take (i := 5) (oi := ⟨some 16, _, _, _, _, _⟩) (v := ?v6) rfl (by kernel_rfl) (by kernel_rfl) (by kernel_rfl) (fun _ _ _ h => h) (Or.inl ⟨rfl, ?c6⟩) hH ?r6
    case c6 => (intro w' hS; (try dsimp only at hS); go_simp; (try with_reducible rfl))
    try simp only [Act.put, List.setIfInBounds_toArray, List.set_cons_zero, List.set_cons_succ]
    refine wpAnyH_take (i := 6) (oi := ⟨some 17, _, _, _, _, _⟩) (v := ?v7) rfl (by kernel_rfl) (by kernel_rfl) (by kernel_rfl) (fun _ _ _ h => h) (Or.inl ⟨rfl, ?c7⟩) hH ?r7
    case c7 => (intro w' hS; refine take_look (v := .agg (ckA (V.wr pl))) 37 (.tmp 14) (.tmp 16) ?_ m4 pl ?_ ?_ (Mc.look hS.2.1.out.M4 pl) <;> rfl)
    try simp only [Act.put, List.setIfInBounds_toArray, List.set_cons_zero, List.set_cons_succ]
    refine wpAnyH_take (i := 7) (oi := ⟨some 18, _, _, _, _, _⟩) (v := ?v8) rfl (by kernel_rfl) (by kernel_rfl) (by kernel_rfl) (fun _ _ _ h => h) (Or.inl ⟨rfl, ?c8⟩) hH ?r8
    case c8 => (intro w' hS; refine take_load_row 39 (.tmp 5) ?_ (w.heap.size + 1) ?_ hS.2.2.2.2.1.out ck_is rfl (ck_size _) <;> rfl)
    try simp only [Act.put, List.setIfInBounds_toArray, List.set_cons_zero, List.set_cons_succ]
    refine wpAnyH_ready (rs := [8]) (by kernel_rfl) (by simp) (AllReadyH.cons rfl (fun K hK => ?_) (AllReadyH.nil))
    go_simp
    go_at_call 20
    refine (exceeds_any _ _ _).mono ?_
    rintro e w3 ⟨rfl, hb3⟩
    refine hK.out _ _ (⟨(hb3.cell (p := ⟨w.heap.size, 2, none⟩) (by have := hH.2.2.2.2.1.out.lt; show w.heap.size < _; omega)).trans hH.1, (show Hid _ from hH.2.1.out.next hb3), (hb3.cell (p := ⟨p, 4099, none⟩) hH.2.1.out.plt).trans hH.2.2.1, (hb3.cell (p := ⟨p, 4098, none⟩) hH.2.1.out.plt).trans hH.2.2.2.1, (show Hid _ from hH.2.2.2.2.1.out.next hb3), (show Hid _ from hH.2.2.2.2.2.out.trans (hb3.mono hH.2.2.2.2.2.out.size))⟩) (fun hH => ?_)
    clear hK K
    clear hb3
    try simp only [Act.put, List.setIfInBounds_toArray, List.set_cons_zero, List.set_cons_succ]
    refine wpAnyH_take (i := 9) (oi := ⟨some 6, _, _, _, _, _⟩) (v := ?v9) rfl (by kernel_rfl) (by kernel_rfl) (by kernel_rfl) (fun _ _ _ h => h) (Or.inl ⟨rfl, ?c9⟩) hH ?r9
    case c9 => (intro w' _; go_simp; (try with_reducible rfl))
    try simp only [Act.put, List.setIfInBounds_toArray, List.set_cons_zero, List.set_cons_succ]
    refine wpAnyH_done (by kernel_rfl) ?_ _
    have HF := Lib.hid hH.2.2.2.2.2.out
    clear hH
    go_wp2_with fail
    go_ret
    exact ⟨by rw [HK.out]; rfl, HF.out⟩
  by_cases k6 : k = 6
  · subst k6
    have HK0 : racesB V ⟨(tn : Int), 6, pl⟩ kn = (excB (V.wr pl) kn || excB (V.rd pl) kn) := by unfold racesB; rw [if_neg (show ¬ (6 : Int) = 5 by decide), if_pos rfl]
    cases hE : excB (V.wr pl) kn with
    | true =>
      have HE := Lib.hid hE
      have HK : Hid (racesB V ⟨(tn : Int), 6, pl⟩ kn = true) := by show _ = _; rw [HK0, hE]; rfl
      clear HK0 hE
      go_in
      go_wp2_with fail
      refine wp_region_held_drew (S := (fun w' => w'.cell? ⟨w.heap.size, 2, none⟩ = some (.int .i64 pl) ∧ Hid (Pa w' p m1 m2 m3 m4 V) ∧ w'.cell? ⟨p, 4099, none⟩ = some (.map (some m4)) ∧ w'.cell? ⟨p, 4098, none⟩ = some (.map (some m3)) ∧ Hid (Blk w' (w.heap.size + 1) (ckA kn) 39) ∧ Hid (Below w.heap.size w w'))) (by kernel_rfl) (⟨HX1.out.drew.cell 2 _ rfl, (show Hid _ from HP1.out.drew), HP1.out.drew.c4, HP1.out.drew.c3, (show Hid _ from HR1.out.drew), (show Hid _ from HB1.out.drew)⟩) (fun hH => ?_)
      refine wpAnyH_take (i := 0) (oi := ⟨some 22, _, _, _, _, _⟩) (v := ?v101) rfl (by kernel_rfl) (by kernel_rfl) (by kernel_rfl) (fun _ _ _ h => h) (Or.inl ⟨rfl, ?c101⟩) hH ?r101
      case c101 => (intro w' _; go_simp; (try with_reducible rfl))
      try simp only [Act.put, List.setIfInBounds_toArray, List.set_cons_zero, List.set_cons_succ]
      refine wpAnyH_take (i := 1) (oi := ⟨some 23, _, _, _, _, _⟩) (v := ?v102) rfl (by kernel_rfl) (by kernel_rfl) (by kernel_rfl) (fun _ _ _ h => h) (Or.inl ⟨rfl, ?c102⟩) hH ?r102
      case c102 => (intro w' _; go_simp; (try with_reducible rfl))
      try simp only [Act.put, List.setIfInBounds_toArray, List.set_cons_zero, List.set_cons_succ]
      refine wpAnyH_take (i := 2) (oi := ⟨some 24, _, _, _, _, _⟩) (v := ?v103) rfl (by kernel_rfl) (by kernel_rfl) (by kernel_rfl) (fun _ _ _ h => h) (Or.inl ⟨rfl, ?c103⟩) hH ?r103
      case c103 => (intro w' _; go_simp; (try with_reducible rfl))
      try simp only [Act.put, List.setIfInBounds_toArray, List.set_cons_zero, List.set_cons_succ]
      refine wpAnyH_take (i := 3) (oi := ⟨some 25, _, _, _, _, _⟩) (v := ?v104) rfl (by kernel_rfl) (by kernel_rfl) (by kernel_rfl) (fun _ _ _ h => h) (Or.inl ⟨rfl, ?c104⟩) hH ?r104
      case c104 => (intro w' hS; (try dsimp only at hS); go_simp; (try with_reducible rfl))
      try simp only [Act.put, List.setIfInBounds_toArray, List.set_cons_zero, List.set_cons_succ]
      refine wpAnyH_take (i := 4) (oi := ⟨some 26, _, _, _, _, _⟩) (v := ?v105) rfl (by kernel_rfl) (by kernel_rfl) (by kernel_rfl) (fun _ _ _ h => h) (Or.inl ⟨rfl, ?c105⟩) hH ?r105
      case c105 => (intro w' _; go_simp; (try with_reducible rfl))
      try simp only [Act.put, List.setIfInBounds_toArray, List.set_cons_zero, List.set_cons_succ]
      refine wpAnyH_take (i := 5) (oi := ⟨some 27, _, _, _, _, _⟩) (v := ?v106) rfl (by kernel_rfl) (by kernel_rfl) (by kernel_rfl) (fun _ _ _ h => h) (Or.inl ⟨rfl, ?c106⟩) hH ?r106
      case c106 => (intro w' hS; (try dsimp only at hS); go_simp; (try with_reducible rfl))
      try simp only [Act.put, List.setIfInBounds_toArray, List.set_cons_zero, List.set_cons_succ]
      refine wpAnyH_take (i := 6) (oi := ⟨some 28, _, _, _, _, _⟩) (v := ?v107) rfl (by kernel_rfl) (by kernel_rfl) (by kernel_rfl) (fun _ _ _ h => h) (Or.inl ⟨rfl, ?c107⟩) hH ?r107
      case c107 => (intro w' hS; refine take_look (v := .agg (ckA (V.wr pl))) 37 (.tmp 25) (.tmp 27) ?_ m4 pl ?_ ?_ (Mc.look hS.2.1.out.M4 pl) <;> rfl)
      try simp only [Act.put, List.setIfInBounds_toArray, List.set_cons_zero, List.set_cons_succ]
      refine wpAnyH_take (i := 7) (oi := ⟨some 29, _, _, _, _, _⟩) (v := ?v108) rfl (by kernel_rfl) (by kernel_rfl) (by kernel_rfl) (fun _ _ _ h => h) (Or.inl ⟨rfl, ?c108⟩) hH ?r108
      case c108 => (intro w' hS; refine take_load_row 39 (.tmp 5) ?_ (w.heap.size + 1) ?_ hS.2.2.2.2.1.out ck_is rfl (ck_size _) <;> rfl)
      try simp only [Act.put, List.setIfInBounds_toArray, List.set_cons_zero, List.set_cons_succ]
      refine wpAnyH_ready (rs := [8]) (by kernel_rfl) (by simp) (AllReadyH.cons rfl (fun K hK => ?_) (AllReadyH.nil))
      go_simp
      go_at_call 20
      refine (exceeds_any _ _ _).mono ?_
      rintro e w3 ⟨rfl, hb3⟩
      rw [HE.out]
      refine hK.out _ _ (⟨(hb3.cell (p := ⟨w.heap.size, 2, none⟩) (by have := hH.2.2.2.2.1.out.lt; show w.heap.size < _; omega)).trans hH.1, (show Hid _ from hH.2.1.out.next hb3), (hb3.cell (p := ⟨p, 4099, none⟩) hH.2.1.out.plt).trans hH.2.2.1, (hb3.cell (p := ⟨p, 4098, none⟩) hH.2.1.out.plt).trans hH.2.2.2.1, (show Hid _ from hH.2.2.2.2.1.out.next hb3), (show Hid _ from hH.2.2.2.2.2.out.trans (hb3.mono hH.2.2.2.2.2.out.size))⟩) (fun hH => ?_)
      clear hK K
      clear hb3
      try simp only [Act.put, List.setIfInBounds_toArray, List.set_cons_zero, List.set_cons_succ]
      refine wpAnyH_take (i := 9) (oi := ⟨some 31, _, _, _, _, _⟩) (v := ?v109) rfl (by kernel_rfl) (by kernel_rfl) (by kernel_rfl) (fun _ _ _ h => h) (Or.inl ⟨rfl, ?c109⟩) hH ?r109
      case c109 => (intro w' _; go_simp; (try with_reducible rfl))
      try simp only [Act.put, List.setIfInBounds_toArray, List.set_cons_zero, List.set_cons_succ]
      refine wpAnyH_take (i := 10) (oi := ⟨some 32, _, _, _, _, _⟩) (v := undef) rfl (by kernel_rfl) (by kernel_rfl) (by kernel_rfl) (fun _ _ _ h => h) (Or.inr ⟨rfl, rfl⟩) hH ?_
      try simp only [Act.put, List.setIfInBounds_toArray, List.set_cons_zero, List.set_cons_succ]
      refine wpAnyH_take (i := 11) (oi := ⟨some 33, _, _, _, _, _⟩) (v := undef) rfl (by kernel_rfl) (by kernel_rfl) (by kernel_rfl) (fun _ _ _ h => h) (Or.inr ⟨rfl, rfl⟩) hH ?_
      try simp only [Act.put, List.setIfInBounds_toArray, List.set_cons_zero, List.set_cons_succ]
      refine wpAnyH_take (i := 12) (oi := ⟨some 34, _, _, _, _, _⟩) (v := undef) rfl (by kernel_rfl) (by kernel_rfl) (by kernel_rfl) (fun _ _ _ h => h) (Or.inr ⟨rfl, rfl⟩) hH ?_
      try simp only [Act.put, List.setIfInBounds_toArray, List.set_cons_zero, List.set_cons_succ]
      refine wpAnyH_take (i := 13) (oi := ⟨some 35, _, _, _, _, _⟩) (v := undef) rfl (by kernel_rfl) (by kernel_rfl) (by kernel_rfl) (fun _ _ _ h => h) (Or.inr ⟨rfl, rfl⟩) hH ?_
      try simp only [Act.put, List.setIfInBounds_toArray, List.set_cons_zero, List.set_cons_succ]
      refine wpAnyH_take (i := 14) (oi := ⟨some 36, _, _, _, _, _⟩) (v := undef) rfl (by kernel_rfl) (by kernel_rfl) (by kernel_rfl) (fun _ _ _ h => h) (Or.inr ⟨rfl, rfl⟩) hH ?_
      try simp only [Act.put, List.setIfInBounds_toArray, List.set_cons_zero, List.set_cons_succ]
      refine wpAnyH_take (i := 15) (oi := ⟨some 37, _, _, _, _, _⟩) (v := undef) rfl (by kernel_rfl) (by kernel_rfl) (by kernel_rfl) (fun _ _ _ h => h) (Or.inr ⟨rfl, rfl⟩) hH ?_
      try simp only [Act.put, List.setIfInBounds_toArray, List.set_cons_zero, List.set_cons_succ]
      refine wpAnyH_take (i := 16) (oi := ⟨some 38, _, _, _, _, _⟩) (v := undef) rfl (by kernel_rfl) (by kernel_rfl) (by kernel_rfl) (fun _ _ _ h => h) (Or.inr ⟨rfl, rfl⟩) hH ?_
      try simp only [Act.put, List.setIfInBounds_toArray, List.set_cons_zero, List.set_cons_succ]
      refine wpAnyH_take (i := 17) (oi := ⟨some 39, _, _, _, _, _⟩) (v := undef) rfl (by kernel_rfl) (by kernel_rfl) (by kernel_rfl) (fun _ _ _ h => h) (Or.inr ⟨rfl, rfl⟩) hH ?_
      try simp only [Act.put, List.setIfInBounds_toArray, List.set_cons_zero, List.set_cons_succ]
      refine wpAnyH_take (i := 18) (oi := ⟨some 40, _, _, _, _, _⟩) (v := undef) rfl (by kernel_rfl) (by kernel_rfl) (by kernel_rfl) (fun _ _ _ h => h) (Or.inr ⟨rfl, rfl⟩) hH ?_
      try simp only [Act.put, List.setIfInBounds_toArray, List.set_cons_zero, List.set_cons_succ]
      refine wpAnyH_take (i := 19) (oi := ⟨some 41, _, _, _, _, _⟩) (v := ?v119) rfl (by kernel_rfl) (by kernel_rfl) (by kernel_rfl) (fun _ _ _ h => h) (Or.inl ⟨rfl, ?c119⟩) hH ?r119
      case c119 => (intro w' _; go_simp; (try with_reducible rfl))
      try simp only [Act.put, List.setIfInBounds_toArray, List.set_cons_zero, List.set_cons_succ]
      refine wpAnyH_take (i := 20) (oi := ⟨some 6, _, _, _, _, _⟩) (v := ?v120) rfl (by kernel_rfl) (by kernel_rfl) (by kernel_rfl) (fun _ _ _ h => h) (Or.inl ⟨rfl, ?c120⟩) hH ?r120
      case c120 => (intro w' _; go_simp; (try with_reducible rfl))
      try simp only [Act.put, List.setIfInBounds_toArray, List.set_cons_zero, List.set_cons_succ]
      refine wpAnyH_done (by kernel_rfl) ?_ _
      have HF := Lib.hid hH.2.2.2.2.2.out
      clear hH
      go_wp2_with fail
      go_ret
      exact ⟨by rw [HK.out]; rfl, HF.out⟩
    | false =>
      have HE := Lib.hid hE
      have HK : Hid (racesB V ⟨(tn : Int), 6, pl⟩ kn = excB (V.rd pl) kn) := by show _ = _; rw [HK0, hE]; rfl
      clear HK0 hE
      go_in
      go_wp2_with fail
      refine wp_region_held_drew (S := (fun w' => w'.cell? ⟨w.heap.size, 2, none⟩ = some (.int .i64 pl) ∧ Hid (Pa w' p m1 m2 m3 m4 V) ∧ w'.cell? ⟨p, 4099, none⟩ = some (.map (some m4)) ∧ w'.cell? ⟨p, 4098, none⟩ = some (.map (some m3)) ∧ Hid (Blk w' (w.heap.size + 1) (ckA kn) 39) ∧ Hid (Below w.heap.size w w'))) (by kernel_rfl) (⟨HX1.out.drew.cell 2 _ rfl, (show Hid _ from HP1.out.drew), HP1.out.drew.c4, HP1.out.drew.c3, (show Hid _ from HR1.out.drew), (show Hid _ from HB1.out.drew)⟩) (fun hH => ?_)
      refine wpAnyH_take (i := 0) (oi := ⟨some 22, _, _, _, _, _⟩) (v := ?v201) rfl (by kernel_rfl) (by kernel_rfl) (by kernel_rfl) (fun _ _ _ h => h) (Or.inl ⟨rfl, ?c201⟩) hH ?r201
      case c201 => (intro w' _; go_simp; (try with_reducible rfl))
      try simp only [Act.put, List.setIfInBounds_toArray, List.set_cons_zero, List.set_cons_succ]
      refine wpAnyH_take (i := 1) (oi := ⟨some 23, _, _, _, _, _⟩) (v := ?v202) rfl (by kernel_rfl) (by kernel_rfl) (by kernel_rfl) (fun _ _ _ h => h) (Or.inl ⟨rfl, ?c202⟩) hH ?r202
      case c202 => (intro w' _; go_simp; (try with_reducible rfl))
      try simp only [Act.put, List.setIfInBounds_toArray, List.set_cons_zero, List.set_cons_succ]
      refine wpAnyH_take (i := 2) (oi := ⟨some 24, _, _, _, _, _⟩) (v := ?v203) rfl (by kernel_rfl) (by kernel_rfl) (by kernel_rfl) (fun _ _ _ h => h) (Or.inl ⟨rfl, ?c203⟩) hH ?r203
      case c203 => (intro w' _; go_simp; (try with_reducible rfl))
      try simp only [Act.put, List.setIfInBounds_toArray, List.set_cons_zero, List.set_cons_succ]
      refine wpAnyH_take (i := 3) (oi := ⟨some 25, _, _, _, _, _⟩) (v := ?v204) rfl (by kernel_rfl) (by kernel_rfl) (by kernel_rfl) (fun _ _ _ h => h) (Or.inl ⟨rfl, ?c204⟩) hH ?r204
      case c204 => (intro w' hS; (try dsimp only at hS); go_simp; (try with_reducible rfl))
      try simp only [Act.put, List.setIfInBounds_toArray, List.set_cons_zero, List.set_cons_succ]
      refine wpAnyH_take (i := 4) (oi := ⟨some 26, _, _, _, _, _⟩) (v := ?v205) rfl (by kernel_rfl) (by kernel_rfl) (by kernel_rfl) (fun _ _ _ h => h) (Or.inl ⟨rfl, ?c205⟩) hH ?r205
      case c205 => (intro w' _; go_simp; (try with_reducible rfl))
      try simp only [Act.put, List.setIfInBounds_toArray, List.set_cons_zero, List.set_cons_succ]
      refine wpAnyH_take (i := 5) (oi := ⟨some 27, _, _, _, _, _⟩) (v := ?v206) rfl (by kernel_rfl) (by kernel_rfl) (by kernel_rfl) (fun _ _ _ h => h) (Or.inl ⟨rfl, ?c206⟩) hH ?r206
      case c206 => (intro w' hS; (try dsimp only at hS); go_simp; (try with_reducible rfl))
      try simp only [Act.put, List.setIfInBounds_toArray, List.set_cons_zero, List.set_cons_succ]
      refine wpAnyH_take (i := 6) (oi := ⟨some 28, _, _, _, _, _⟩) (v := ?v207) rfl (by kernel_rfl) (by kernel_rfl) (by kernel_rfl) (fun _ _ _ h => h) (Or.inl ⟨rfl, ?c207⟩) hH ?r207
      case c207 => (intro w' hS; refine take_look (v := .agg (ckA (V.wr pl))) 37 (.tmp 25) (.tmp 27) ?_ m4 pl ?_ ?_ (Mc.look hS.2.1.out.M4 pl) <;> rfl)
      try simp only [Act.put, List.setIfInBounds_toArray, List.set_cons_zero, List.set_cons_succ]
      refine wpAnyH_take (i := 7) (oi := ⟨some 29, _, _, _, _, _⟩) (v := ?v208) rfl (by kernel_rfl) (by kernel_rfl) (by kernel_rfl) (fun _ _ _ h => h) (Or.inl ⟨rfl, ?c208⟩) hH ?r208
      case c208 => (intro w' hS; refine take_load_row 39 (.tmp 5) ?_ (w.heap.size + 1) ?_ hS.2.2.2.2.1.out ck_is rfl (ck_size _) <;> rfl)
      try simp only [Act.put, List.setIfInBounds_toArray, List.set_cons_zero, List.set_cons_succ]
      refine wpAnyH_ready (rs := [8]) (by kernel_rfl) (by simp) (AllReadyH.cons rfl (fun K hK => ?_) (AllReadyH.nil))
      go_simp
      go_at_call 20
      refine (exceeds_any _ _ _).mono ?_
      rintro e w3 ⟨rfl, hb3⟩
      rw [HE.out]
      refine hK.out _ _ (⟨(hb3.cell (p := ⟨w.heap.size, 2, none⟩) (by have := hH.2.2.2.2.1.out.lt; show w.heap.size < _; omega)).trans hH.1, (show Hid _ from hH.2.1.out.next hb3), (hb3.cell (p := ⟨p, 4099, none⟩) hH.2.1.out.plt).trans hH.2.2.1, (hb3.cell (p := ⟨p, 4098, none⟩) hH.2.1.out.plt).trans hH.2.2.2.1, (show Hid _ from hH.2.2.2.2.1.out.next hb3), (show Hid _ from hH.2.2.2.2.2.out.trans (hb3.mono hH.2.2.2.2.2.out.size))⟩) (fun hH => ?_)
      clear hK K
      clear hb3
      try simp only [Act.put, List.setIfInBounds_toArray, List.set_cons_zero, List.set_cons_succ]
      refine wpAnyH_take (i := 9) (oi := ⟨some 31, _, _, _, _, _⟩) (v := ?v209) rfl (by kernel_rfl) (by kernel_rfl) (by kernel_rfl) (fun _ _ _ h => h) (Or.inl ⟨rfl, ?c209⟩) hH ?r209
      case c209 => (intro w' _; go_simp; (try with_reducible rfl))
      try simp only [Act.put, List.setIfInBounds_toArray, List.set_cons_zero, List.set_cons_succ]
      refine wpAnyH_take (i := 10) (oi := ⟨some 32, _, _, _, _, _⟩) (v := ?v210) rfl (by kernel_rfl) (by kernel_rfl) (by kernel_rfl) (fun _ _ _ h => h) (Or.inl ⟨rfl, ?c210⟩) hH ?r210
      case c210 => (intro w' _; go_simp; (try with_reducible rfl))
      try simp only [Act.put, List.setIfInBounds_toArray, List.set_cons_zero, List.set_cons_succ]
      refine wpAnyH_take (i := 11) (oi := ⟨some 33, _, _, _, _, _⟩) (v := ?v211) rfl (by kernel_rfl) (by kernel_rfl) (by kernel_rfl) (fun _ _ _ h => h) (Or.inl ⟨rfl, ?c211⟩) hH ?r211
      case c211 => (intro w' _; go_simp; (try with_reducible rfl))
      try simp only [Act.put, List.setIfInBounds_toArray, List.set_cons_zero, List.set_cons_succ]
      refine wpAnyH_take (i := 12) (oi := ⟨some 34, _, _, _, _, _⟩) (v := ?v212) rfl (by kernel_rfl) (by kernel_rfl) (by kernel_rfl) (fun _ _ _ h => h) (Or.inl ⟨rfl, ?c212⟩) hH ?r212
      case c212 => (intro w' _; go_simp; (try with_reducible rfl))
      try simp only [Act.put, List.setIfInBounds_toArray, List.set_cons_zero, List.set_cons_succ]
      refine wpAnyH_take (i := 13) (oi := ⟨some 35, _, _, _, _, _⟩) (v := ?v213) rfl (by kernel_rfl) (by kernel_rfl) (by kernel_rfl) (fun _ _ _ h => h) (Or.inl ⟨rfl, ?c213⟩) hH ?r213
      case c213 => (intro w' hS; (try dsimp only at hS); go_simp; (try with_reducible rfl))
      try simp only [Act.put, List.setIfInBounds_toArray, List.set_cons_zero, List.set_cons_succ]
      refine wpAnyH_take (i := 14) (oi := ⟨some 36, _, _, _, _, _⟩) (v := ?v214) rfl (by kernel_rfl) (by kernel_rfl) (by kernel_rfl) (fun _ _ _ h => h) (Or.inl ⟨rfl, ?c214⟩) hH ?r214
      case c214 => (intro w' _; go_simp; (try with_reducible rfl))
      try simp only [Act.put, List.setIfInBounds_toArray, List.set_cons_zero, List.set_cons_succ]
      refine wpAnyH_take (i := 15) (oi := ⟨some 37, _, _, _, _, _⟩) (v := ?v215) rfl (by kernel_rfl) (by kernel_rfl) (by kernel_rfl) (fun _ _ _ h => h) (Or.inl ⟨rfl, ?c215⟩) hH ?r215
      case c215 => (intro w' hS; (try dsimp only at hS); go_simp; (try with_reducible rfl))
      try simp only [Act.put, List.setIfInBounds_toArray, List.set_cons_zero, List.set_cons_succ]
      refine wpAnyH_take (i := 16) (oi := ⟨some 38, _, _, _, _, _⟩) (v := ?v216) rfl (by kernel_rfl) (by kernel_rfl) (by kernel_rfl) (fun _ _ _ h => h) (Or.inl ⟨rfl, ?c216⟩) hH ?r216
      case c216 => (intro w' hS; refine take_look (v := .agg (ckA (V.rd pl))) 37 (.tmp 35) (.tmp 37) ?_ m3 pl ?_ ?_ (Mc.look hS.2.1.out.M3 pl) <;> rfl)
      try simp only [Act.put, List.setIfInBounds_toArray, List.set_cons_zero, List.set_cons_succ]
      refine wpAnyH_take (i := 17) (oi := ⟨some 39, _, _, _, _, _⟩) (v := ?v217) rfl (by kernel_rfl) (by kernel_rfl) (by kernel_rfl) (fun _ _ _ h => h) (Or.inl ⟨rfl, ?c217⟩) hH ?r217
      case c217 => (intro w' hS; refine take_load_row 39 (.tmp 5) ?_ (w.heap.size + 1) ?_ hS.2.2.2.2.1.out ck_is rfl (ck_size _) <;> rfl)
      try simp only [Act.put, List.setIfInBounds_toArray, List.set_cons_zero, List.set_cons_succ]
      refine wpAnyH_ready (rs := [18]) (by kernel_rfl) (by simp) (AllReadyH.cons rfl (fun K hK => ?_) (AllReadyH.nil))
      go_simp
      go_at_call 20
      refine (exceeds_any _ _ _).mono ?_
      rintro e w3 ⟨rfl, hb3⟩
      refine hK.out _ _ (⟨(hb3.cell (p := ⟨w.heap.size, 2, none⟩) (by have := hH.2.2.2.2.1.out.lt; show w.heap.size < _; omega)).trans hH.1, (show Hid _ from hH.2.1.out.next hb3), (hb3.cell (p := ⟨p, 4099, none⟩) hH.2.1.out.plt).trans hH.2.2.1, (hb3.cell (p := ⟨p, 4098, none⟩) hH.2.1.out.plt).trans hH.2.2.2.1, (show Hid _ from hH.2.2.2.2.1.out.next hb3), (show Hid _ from hH.2.2.2.2.2.out.trans (hb3.mono hH.2.2.2.2.2.out.size))⟩) (fun hH => ?_)
      clear hK K
      clear hb3
      try simp only [Act.put, List.setIfInBounds_toArray, List.set_cons_zero, List.set_cons_succ]
      refine wpAnyH_take (i := 19) (oi := ⟨some 41, _, _, _, _, _⟩) (v := ?v218) rfl (by kernel_rfl) (by kernel_rfl) (by kernel_rfl) (fun _ _ _ h => h) (Or.inl ⟨rfl, ?c218⟩) hH ?r218
      case c218 => (intro w' _; go_simp; (try with_reducible rfl))
      try simp only [Act.put, List.setIfInBounds_toArray, List.set_cons_zero, List.set_cons_succ]
      refine wpAnyH_take (i := 20) (oi := ⟨some 6, _, _, _, _, _⟩) (v := ?v219) rfl (by kernel_rfl) (by kernel_rfl) (by kernel_rfl) (fun _ _ _ h => h) (Or.inl ⟨rfl, ?c219⟩) hH ?r219
      case c219 => (intro w' _; go_simp; (try with_reducible rfl))
      try simp only [Act.put, List.setIfInBounds_toArray, List.set_cons_zero, List.set_cons_succ]
      refine wpAnyH_done (by kernel_rfl) ?_ _
      have HF := Lib.hid hH.2.2.2.2.2.out
      clear hH
      go_wp2_with fail
      go_ret
      exact ⟨by rw [HK.out]; rfl, HF.out⟩
  · have HK : Hid (racesB V ⟨(tn : Int), k, pl⟩ kn = false) := by show _ = _; unfold racesB; rw [if_neg k5, if_neg k6]
    have d5 : (k == 5) = false := by simpa using k5
    have d6 : (k == 6) = false := by simpa using k6
    clear k5 k6
    go_in
    go_wp2_with fail
    go_ret
    exact ⟨by rw [HK.out]; rfl, HB1.out⟩
end Rc
end Go.Proofs.Ytalclmfnalmphaa
