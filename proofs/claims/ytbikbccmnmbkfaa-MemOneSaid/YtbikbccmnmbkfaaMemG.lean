/- Layer 19: the contracts of the program's New and of the reference's. (Written by wip/tools/mkMemG.py.) -/
import Derived.Test.YtbikbccmnmbkfaaMemF
import Derived.Deep.RegionHeld3
set_option linter.unusedVariables false
set_option linter.unusedSimpArgs false
set_option maxRecDepth 100000
namespace Go.Proofs.Ytbikbccmnmbkfaa
open Go.ChangeShapes Go.WideShapes Go.ChangeAt Go.RowKit Go.Mtl Go.Lib
namespace Me
open MemM
theorem below_box (w : World) (o : Obj) : Below w.heap.size w (w.alloc o) := (Below.refl _ w).alloc (Nat.le_refl _) o
theorem made_words (n : Nat) : (madeCells (Value.int .u64 0).cells (n * 1)).toList = ivs .u64 (List.replicate n 0) := by
  rw [show (Value.int IntKind.u64 0).cells = #[.int .u64 0] from rfl, toList_madeCells_one]
  simp [ivs]
abbrev T2 : Mty := ⟨44, 27, 27, 51, .u64⟩
/-- Block B holds a memory of the reference's: a mutex has whose it is, and 1 more. -/
def RAt (w : World) (O : Nat → Prop) (B : Nat) (s : Ms) : Prop := (∃ vw vh vl, Mm T2 w O B vw vh vl s.ws (s.hs.map (· + 1)) s.ls) ∧ Ok s
section
variable {w w' : World} {O O' : Nat → Prop} {B : Nat} {s : Ms}
theorem RAt.far (H : RAt w O B s) (h : Only O' w w') (hd : ∀ j, O j → ¬ O' j) : RAt w' O B s := by
  obtain ⟨⟨vw, vh, vl, h1⟩, h2⟩ := H
  exact ⟨⟨vw, vh, vl, h1.far h hd⟩, h2⟩
theorem RAt.next (H : RAt w O B s) (hb : Below w.heap.size w w') : RAt w' O B s := H.far (O' := fun _ => False) (Only.of_below hb) (fun _ _ e => e)
theorem RAt.lt (H : RAt w O B s) : ∀ j, O j → j < w.heap.size := by
  obtain ⟨⟨vw, vh, vl, h1⟩, h2⟩ := H
  exact h1.lt
end
/-- What New has made. -/
theorem mm_new {T : Mty} {w0 w : World} {n m b1 b2 : Nat} {z : Int} (hb : Below w0.heap.size w0 w) (h1 : w.ownsRow w0.heap.size T.tw 1 (.slice (some ⟨b1, 0, none⟩) n n) n (ivs .u64 (List.replicate n 0)))
    (h2 : w.ownsRow w0.heap.size T.th 1 (.slice (some ⟨b2, 0, none⟩) m m) m (ivs T.k (List.replicate m z))) (hne : b1 ≠ b2) :
    Mm T (w.alloc (.cells #[.slice (some ⟨b1, 0, none⟩) n n, .slice (some ⟨b2, 0, none⟩) m m, .slice none 0 0] T.t)) (fun j => w0.heap.size ≤ j ∧ j < w.heap.size + 1) w.heap.size (.slice (some ⟨b1, 0, none⟩) n n) (.slice (some ⟨b2, 0, none⟩) m m) (.slice none 0 0) (List.replicate n 0) (List.replicate m z) [] := by
  have l1 : w0.heap.size ≤ b1 ∧ b1 < w.heap.size := h1.lt _ rfl
  have l2 : w0.heap.size ≤ b2 ∧ b2 < w.heap.size := h2.lt _ rfl
  have hs := hb.size
  exact {
    blk := Blk.box _ _ _
    wr := by rw [List.length_replicate]; exact row_base (own_below h1 (below_box w _)) (fun _ _ => Nat.zero_le _)
    hr := by rw [List.length_replicate]; exact row_base (own_below h2 (below_box w _)) (fun _ _ => Nat.zero_le _)
    lr := World.ownsRow_nil _ _ _ _
    wo := fun g e => by obtain rfl : b1 = g := Option.some.inj e; exact ⟨⟨l1.1, by omega⟩, by omega⟩
    ho := fun g e => by obtain rfl : b2 = g := Option.some.inj e; exact ⟨⟨l2.1, by omega⟩, by omega, fun e2 => hne (Option.some.inj e2)⟩
    lo := fun g e => by cases e
    ob := ⟨hs, by omega⟩
    lt := fun j hj => by simp only [World.size_alloc]; exact hj.2 }
theorem new_raw {w0 w : World} {a b : Int} {n m b1 b2 : Nat} (hb : Below w0.heap.size w0 w) (h1 : w.ownsRow w0.heap.size 27 1 (.slice (some ⟨b1, 0, none⟩) n n) n (madeCells (Value.int .u64 0).cells (n * 1)).toList)
    (h2 : w.ownsRow w0.heap.size 3 1 (.slice (some ⟨b2, 0, none⟩) m m) m (ivs .i64 (List.replicate m (-1)))) (hne : b1 ≠ b2) (hn : clampN a = n) (hm : clampN b = m) :
    Mm T1 (w.alloc (.cells #[.slice (some ⟨b1, 0, none⟩) n n, .slice (some ⟨b2, 0, none⟩) m m, .slice none 0 0] 59)) (fun j => w0.heap.size ≤ j ∧ j < w.heap.size + 1) w.heap.size (.slice (some ⟨b1, 0, none⟩) n n) (.slice (some ⟨b2, 0, none⟩) m m) (.slice none 0 0) (newS a b).ws (newS a b).hs (newS a b).ls := by
  subst hn hm
  rw [made_words] at h1
  exact mm_new (T := T1) hb h1 h2 hne
theorem rnew_raw {w0 w : World} {a b : Int} {n m b1 b2 : Nat} (hb : Below w0.heap.size w0 w) (h1 : w.ownsRow w0.heap.size 27 1 (.slice (some ⟨b1, 0, none⟩) n n) n (madeCells (Value.int .u64 0).cells (n * 1)).toList)
    (h2 : w.ownsRow w0.heap.size 27 1 (.slice (some ⟨b2, 0, none⟩) m m) m (madeCells (Value.int .u64 0).cells (m * 1)).toList) (hne : b1 ≠ b2) (hn : clampN a = n) (hm : clampN b = m) :
    Mm T2 (w.alloc (.cells #[.slice (some ⟨b1, 0, none⟩) n n, .slice (some ⟨b2, 0, none⟩) m m, .slice none 0 0] 44)) (fun j => w0.heap.size ≤ j ∧ j < w.heap.size + 1) w.heap.size (.slice (some ⟨b1, 0, none⟩) n n) (.slice (some ⟨b2, 0, none⟩) m m) (.slice none 0 0) (newS a b).ws ((newS a b).hs.map (· + 1)) (newS a b).ls := by
  subst hn hm
  rw [made_words] at h1 h2
  have e : (newS a b).hs.map (· + 1) = List.replicate (clampN b) 0 := by simp [newS]
  rw [e]
  exact mm_new (T := T2) hb h1 h2 hne
set_option maxHeartbeats 8000000 in
theorem new_any (a b : Int) (w : World) : Calls Try.prog 7 #[.int .i64 a, .int .i64 b] w fun e w' => ∃ O B, e = .returned (ptr B) ∧ MAt w' O B (newS a b) ∧ Below w.heap.size w w' ∧ ∀ j, O j → w.heap.size ≤ j := by
  have hn8 := clamp_le a
  have hm8 := clamp_le b
  have HCL : Hid (∀ x y : Int, (x = a ∧ y = (clampN a : Int)) ∨ (x = b ∧ y = (clampN b : Int)) → ∀ W, Calls Try.prog 29 #[.int .i64 x] W fun e w' => e = .returned (.int .i64 y) ∧ W = w') := by
    intro x y h W
    rcases h with ⟨rfl, rfl⟩ | ⟨rfl, rfl⟩
    · exact clamp_any _ W
    · exact clamp_any _ W
  obtain ⟨n, hn⟩ : ∃ n, clampN a = n := ⟨_, rfl⟩
  obtain ⟨m, hm⟩ : ∃ m, clampN b = m := ⟨_, rfl⟩
  rw [hn, hm] at HCL
  rw [hn] at hn8
  rw [hm] at hm8
  have hn0 : n ≤ 1000000000000 := by omega
  have hm0 : m ≤ 1000000000000 := by omega
  have HN := Lib.hid hn
  have HM := Lib.hid hm
  clear hn hm
  go_enter Try.func7, Try.ntmps7
  go_wp2_with fail
  refine wp_region_held_drew (S := fun w' => Below w.heap.size w w') (by kernel_rfl) ((Below.refl _ _).drew) (fun hH => ?_)
  refine wpAnyH_take (i := 0) (oi := ⟨some 5, _, _, _, _, _⟩) (v := ?v1) rfl (by kernel_rfl) (by kernel_rfl) (by kernel_rfl) (fun _ _ _ h => h) (Or.inl ⟨rfl, ?c1⟩) hH ?r1
  case c1 => (intro w' _; go_simp; (try with_reducible rfl))
  try simp only [Act.put, List.setIfInBounds_toArray, List.set_cons_zero, List.set_cons_succ]
  refine wpAnyH_take (i := 4) (oi := ⟨some 9, _, _, _, _, _⟩) (v := ?v2) rfl (by kernel_rfl) (by kernel_rfl) (by kernel_rfl) (fun _ _ _ h => h) (Or.inl ⟨rfl, ?c2⟩) hH ?r2
  case c2 => (intro w' _; go_simp; (try with_reducible rfl))
  try simp only [Act.put, List.setIfInBounds_toArray, List.set_cons_zero, List.set_cons_succ]
  refine wpAnyH_ready (rs := [1, 3]) (by kernel_rfl) (by simp) (AllReadyH.cons rfl (fun K hK => ?_) (AllReadyH.cons rfl (fun K hK => ?_) (AllReadyH.nil)))
  · go_simp
    go_at_call 29
    refine (HCL.out a n (.inl ⟨rfl, rfl⟩) _).mono ?_
    rintro e w9 ⟨rfl, rfl⟩
    refine hK.out _ _ (hH) (fun hH => ?_)
    clear hK K
    try simp only [Act.put, List.setIfInBounds_toArray, List.set_cons_zero, List.set_cons_succ]
    refine wpAnyH_ready (rs := [2, 3, 5]) (by kernel_rfl) (by simp) (AllReadyH.cons rfl (fun K hK => ?_) (AllReadyH.cons rfl (fun K hK => ?_) (AllReadyH.cons rfl (fun K hK => ?_) (AllReadyH.nil))))
    · refine step_make rfl (.tmp 6) (.tmp 6) 41 rfl w.heap.size 27 (.int .u64 0) 1 8 Try.underlying41 info_word (by omega) .i64 n rfl rfl hn0 hH.size ?_
      intro w2 hown hbm
      change K (Act.put _ (some 7) (.slice (some ⟨_, 0, none⟩) n n)) _
      have HW := hown
      
      refine hK.out _ _ (hH.trans (hbm.out.mono hH.size)) (fun hH => ?_)
      clear hK K
      clear hown hbm
      try simp only [Act.put, List.setIfInBounds_toArray, List.set_cons_zero, List.set_cons_succ]
      refine wpAnyH_ready (rs := [3, 5]) (by kernel_rfl) (by simp) (AllReadyH.cons rfl (fun K hK => ?_) (AllReadyH.cons rfl (fun K hK => ?_) (AllReadyH.nil)))
      · go_simp
        refine at_world (fun V hV => ?_)
        have hbl : Below _ _ V := (by rw [hV]; exact below_box _ _)
        have HX : Hid (V.cell? ⟨_, 0, none⟩ = some (.int .i64 (-1))) := (show _ = _ by rw [hV]; exact (Blk.box _ _ _).cell 0 _ rfl)
        replace HW := Lib.hid (own_below HW.out hbl)
        refine hK.out _ _ (hH.trans (hbl.mono hH.size)) (fun hH => ?_)
        clear hK K
        clear hV hbl
        try simp only [Act.put, List.setIfInBounds_toArray, List.set_cons_zero, List.set_cons_succ]
        refine wpAnyH_ready (rs := [5]) (by kernel_rfl) (by simp) (AllReadyH.cons rfl (fun K hK => ?_) (AllReadyH.nil))
        go_simp
        go_at_call 29
        refine (HCL.out b m (.inr ⟨rfl, rfl⟩) _).mono ?_
        rintro e w9 ⟨rfl, rfl⟩
        refine hK.out _ _ (hH) (fun hH => ?_)
        clear hK K
        try simp only [Act.put, List.setIfInBounds_toArray, List.set_cons_zero, List.set_cons_succ]
        refine wpAnyH_ready (rs := [6]) (by kernel_rfl) (by simp) (AllReadyH.cons rfl (fun K hK => ?_) (AllReadyH.nil))
        go_simp
        have HNE := Lib.hid (Nat.ne_of_lt (HW.out.lt _ rfl).2)
        go_at_call 30
        refine (repeat_any _ (-1) m hm8 _ HX.out).mono ?_
        rintro e w6 ⟨rfl, hr, hbr⟩
        have HR := Lib.hid (row_base (b2 := w.heap.size) hr (fun g hg => Nat.le_trans hH.size (hr.lt g hg).1))
        replace HW := Lib.hid (own_below HW.out hbr)
        refine hK.out _ _ (hH.trans (hbr.mono hH.size)) (fun hH => ?_)
        clear hK K
        clear hr hbr HX
        try simp only [Act.put, List.setIfInBounds_toArray, List.set_cons_zero, List.set_cons_succ]
        refine wpAnyH_take (i := 7) (oi := ⟨some 12, _, _, _, _, _⟩) (v := ?v3) rfl (by kernel_rfl) (by kernel_rfl) (by kernel_rfl) (fun _ _ _ h => h) (Or.inl ⟨rfl, ?c3⟩) hH ?r3
        case c3 => (intro w' _; go_simp; (try with_reducible rfl))
        try simp only [Act.put, List.setIfInBounds_toArray, List.set_cons_zero, List.set_cons_succ]
        refine wpAnyH_ready (rs := [8]) (by kernel_rfl) (by simp) (AllReadyH.cons rfl (fun K hK => ?_) (AllReadyH.nil))
        have HB8 := Lib.hid hH
        go_simp
        refine hK.out _ _ (hH.trans ((below_box _ _).mono hH.size)) (fun hH => ?_)
        clear hK K
        try simp only [Act.put, List.setIfInBounds_toArray, List.set_cons_zero, List.set_cons_succ]
        refine wpAnyH_take (i := 9) (oi := ⟨some 4, _, _, _, _, _⟩) (v := ?v4) rfl (by kernel_rfl) (by kernel_rfl) (by kernel_rfl) (fun _ _ _ h => h) (Or.inl ⟨rfl, ?c4⟩) hH ?r4
        case c4 => (intro w' _; go_simp; (try with_reducible rfl))
        try simp only [Act.put, List.setIfInBounds_toArray, List.set_cons_zero, List.set_cons_succ]
        refine wpAnyH_done (by kernel_rfl) ?_ _
        have HB9 := Lib.hid hH
        clear hH
        go_wp2_with fail
        go_ret
        have HP := new_raw HB8.out HW.out HR.out HNE.out HN.out HM.out
        exact ⟨_, _, rfl, ⟨⟨_, _, _, HP⟩, newS_ok _ _⟩, HB9.out, fun j hj => And.left hj⟩
      · go_simp
        go_at_call 29
        refine (HCL.out b m (.inr ⟨rfl, rfl⟩) _).mono ?_
        rintro e w9 ⟨rfl, rfl⟩
        refine hK.out _ _ (hH) (fun hH => ?_)
        clear hK K
        try simp only [Act.put, List.setIfInBounds_toArray, List.set_cons_zero, List.set_cons_succ]
        refine wpAnyH_ready (rs := [3]) (by kernel_rfl) (by simp) (AllReadyH.cons rfl (fun K hK => ?_) (AllReadyH.nil))
        go_simp
        refine at_world (fun V hV => ?_)
        have hbl : Below _ _ V := (by rw [hV]; exact below_box _ _)
        have HX : Hid (V.cell? ⟨_, 0, none⟩ = some (.int .i64 (-1))) := (show _ = _ by rw [hV]; exact (Blk.box _ _ _).cell 0 _ rfl)
        replace HW := Lib.hid (own_below HW.out hbl)
        refine hK.out _ _ (hH.trans (hbl.mono hH.size)) (fun hH => ?_)
        clear hK K
        clear hV hbl
        try simp only [Act.put, List.setIfInBounds_toArray, List.set_cons_zero, List.set_cons_succ]
        refine wpAnyH_ready (rs := [6]) (by kernel_rfl) (by simp) (AllReadyH.cons rfl (fun K hK => ?_) (AllReadyH.nil))
        go_simp
        have HNE := Lib.hid (Nat.ne_of_lt (HW.out.lt _ rfl).2)
        go_at_call 30
        refine (repeat_any _ (-1) m hm8 _ HX.out).mono ?_
        rintro e w6 ⟨rfl, hr, hbr⟩
        have HR := Lib.hid (row_base (b2 := w.heap.size) hr (fun g hg => Nat.le_trans hH.size (hr.lt g hg).1))
        replace HW := Lib.hid (own_below HW.out hbr)
        refine hK.out _ _ (hH.trans (hbr.mono hH.size)) (fun hH => ?_)
        clear hK K
        clear hr hbr HX
        try simp only [Act.put, List.setIfInBounds_toArray, List.set_cons_zero, List.set_cons_succ]
        refine wpAnyH_take (i := 7) (oi := ⟨some 12, _, _, _, _, _⟩) (v := ?v5) rfl (by kernel_rfl) (by kernel_rfl) (by kernel_rfl) (fun _ _ _ h => h) (Or.inl ⟨rfl, ?c5⟩) hH ?r5
        case c5 => (intro w' _; go_simp; (try with_reducible rfl))
        try simp only [Act.put, List.setIfInBounds_toArray, List.set_cons_zero, List.set_cons_succ]
        refine wpAnyH_ready (rs := [8]) (by kernel_rfl) (by simp) (AllReadyH.cons rfl (fun K hK => ?_) (AllReadyH.nil))
        have HB8 := Lib.hid hH
        go_simp
        refine hK.out _ _ (hH.trans ((below_box _ _).mono hH.size)) (fun hH => ?_)
        clear hK K
        try simp only [Act.put, List.setIfInBounds_toArray, List.set_cons_zero, List.set_cons_succ]
        refine wpAnyH_take (i := 9) (oi := ⟨some 4, _, _, _, _, _⟩) (v := ?v6) rfl (by kernel_rfl) (by kernel_rfl) (by kernel_rfl) (fun _ _ _ h => h) (Or.inl ⟨rfl, ?c6⟩) hH ?r6
        case c6 => (intro w' _; go_simp; (try with_reducible rfl))
        try simp only [Act.put, List.setIfInBounds_toArray, List.set_cons_zero, List.set_cons_succ]
        refine wpAnyH_done (by kernel_rfl) ?_ _
        have HB9 := Lib.hid hH
        clear hH
        go_wp2_with fail
        go_ret
        have HP := new_raw HB8.out HW.out HR.out HNE.out HN.out HM.out
        exact ⟨_, _, rfl, ⟨⟨_, _, _, HP⟩, newS_ok _ _⟩, HB9.out, fun j hj => And.left hj⟩
    · go_simp
      refine at_world (fun V hV => ?_)
      have hbl : Below _ w.drew V := (by rw [hV]; exact below_box w.drew _)
      have HX : Hid (V.cell? ⟨_, 0, none⟩ = some (.int .i64 (-1))) := (show _ = _ by rw [hV]; exact (Blk.box w.drew _ _).cell 0 _ rfl)
      
      refine hK.out _ _ (hH.trans (hbl.mono hH.size)) (fun hH => ?_)
      clear hK K
      clear hV hbl
      try simp only [Act.put, List.setIfInBounds_toArray, List.set_cons_zero, List.set_cons_succ]
      refine wpAnyH_ready (rs := [2, 5]) (by kernel_rfl) (by simp) (AllReadyH.cons rfl (fun K hK => ?_) (AllReadyH.cons rfl (fun K hK => ?_) (AllReadyH.nil)))
      · refine step_make rfl (.tmp 6) (.tmp 6) 41 rfl w.heap.size 27 (.int .u64 0) 1 8 Try.underlying41 info_word (by omega) .i64 n rfl rfl hn0 hH.size ?_
        intro w2 hown hbm
        change K (Act.put _ (some 7) (.slice (some ⟨_, 0, none⟩) n n)) _
        have HW := hown
        replace HX := Lib.hid ((hbm.out.cell (p := ⟨_, 0, none⟩) (World.block_lt_of_cell? _ _ HX.out)).trans HX.out)
        refine hK.out _ _ (hH.trans (hbm.out.mono hH.size)) (fun hH => ?_)
        clear hK K
        clear hown hbm
        try simp only [Act.put, List.setIfInBounds_toArray, List.set_cons_zero, List.set_cons_succ]
        refine wpAnyH_ready (rs := [5]) (by kernel_rfl) (by simp) (AllReadyH.cons rfl (fun K hK => ?_) (AllReadyH.nil))
        go_simp
        go_at_call 29
        refine (HCL.out b m (.inr ⟨rfl, rfl⟩) _).mono ?_
        rintro e w9 ⟨rfl, rfl⟩
        refine hK.out _ _ (hH) (fun hH => ?_)
        clear hK K
        try simp only [Act.put, List.setIfInBounds_toArray, List.set_cons_zero, List.set_cons_succ]
        refine wpAnyH_ready (rs := [6]) (by kernel_rfl) (by simp) (AllReadyH.cons rfl (fun K hK => ?_) (AllReadyH.nil))
        go_simp
        have HNE := Lib.hid (Nat.ne_of_lt (HW.out.lt _ rfl).2)
        go_at_call 30
        refine (repeat_any _ (-1) m hm8 _ HX.out).mono ?_
        rintro e w6 ⟨rfl, hr, hbr⟩
        have HR := Lib.hid (row_base (b2 := w.heap.size) hr (fun g hg => Nat.le_trans hH.size (hr.lt g hg).1))
        replace HW := Lib.hid (own_below HW.out hbr)
        refine hK.out _ _ (hH.trans (hbr.mono hH.size)) (fun hH => ?_)
        clear hK K
        clear hr hbr HX
        try simp only [Act.put, List.setIfInBounds_toArray, List.set_cons_zero, List.set_cons_succ]
        refine wpAnyH_take (i := 7) (oi := ⟨some 12, _, _, _, _, _⟩) (v := ?v7) rfl (by kernel_rfl) (by kernel_rfl) (by kernel_rfl) (fun _ _ _ h => h) (Or.inl ⟨rfl, ?c7⟩) hH ?r7
        case c7 => (intro w' _; go_simp; (try with_reducible rfl))
        try simp only [Act.put, List.setIfInBounds_toArray, List.set_cons_zero, List.set_cons_succ]
        refine wpAnyH_ready (rs := [8]) (by kernel_rfl) (by simp) (AllReadyH.cons rfl (fun K hK => ?_) (AllReadyH.nil))
        have HB8 := Lib.hid hH
        go_simp
        refine hK.out _ _ (hH.trans ((below_box _ _).mono hH.size)) (fun hH => ?_)
        clear hK K
        try simp only [Act.put, List.setIfInBounds_toArray, List.set_cons_zero, List.set_cons_succ]
        refine wpAnyH_take (i := 9) (oi := ⟨some 4, _, _, _, _, _⟩) (v := ?v8) rfl (by kernel_rfl) (by kernel_rfl) (by kernel_rfl) (fun _ _ _ h => h) (Or.inl ⟨rfl, ?c8⟩) hH ?r8
        case c8 => (intro w' _; go_simp; (try with_reducible rfl))
        try simp only [Act.put, List.setIfInBounds_toArray, List.set_cons_zero, List.set_cons_succ]
        refine wpAnyH_done (by kernel_rfl) ?_ _
        have HB9 := Lib.hid hH
        clear hH
        go_wp2_with fail
        go_ret
        have HP := new_raw HB8.out HW.out HR.out HNE.out HN.out HM.out
        exact ⟨_, _, rfl, ⟨⟨_, _, _, HP⟩, newS_ok _ _⟩, HB9.out, fun j hj => And.left hj⟩
      · go_simp
        go_at_call 29
        refine (HCL.out b m (.inr ⟨rfl, rfl⟩) _).mono ?_
        rintro e w9 ⟨rfl, rfl⟩
        refine hK.out _ _ (hH) (fun hH => ?_)
        clear hK K
        try simp only [Act.put, List.setIfInBounds_toArray, List.set_cons_zero, List.set_cons_succ]
        refine wpAnyH_ready (rs := [2, 6]) (by kernel_rfl) (by simp) (AllReadyH.cons rfl (fun K hK => ?_) (AllReadyH.cons rfl (fun K hK => ?_) (AllReadyH.nil)))
        · refine step_make rfl (.tmp 6) (.tmp 6) 41 rfl w.heap.size 27 (.int .u64 0) 1 8 Try.underlying41 info_word (by omega) .i64 n rfl rfl hn0 hH.size ?_
          intro w2 hown hbm
          change K (Act.put _ (some 7) (.slice (some ⟨_, 0, none⟩) n n)) _
          have HW := hown
          replace HX := Lib.hid ((hbm.out.cell (p := ⟨_, 0, none⟩) (World.block_lt_of_cell? _ _ HX.out)).trans HX.out)
          refine hK.out _ _ (hH.trans (hbm.out.mono hH.size)) (fun hH => ?_)
          clear hK K
          clear hown hbm
          try simp only [Act.put, List.setIfInBounds_toArray, List.set_cons_zero, List.set_cons_succ]
          refine wpAnyH_ready (rs := [6]) (by kernel_rfl) (by simp) (AllReadyH.cons rfl (fun K hK => ?_) (AllReadyH.nil))
          go_simp
          have HNE := Lib.hid (Nat.ne_of_lt (HW.out.lt _ rfl).2)
          go_at_call 30
          refine (repeat_any _ (-1) m hm8 _ HX.out).mono ?_
          rintro e w6 ⟨rfl, hr, hbr⟩
          have HR := Lib.hid (row_base (b2 := w.heap.size) hr (fun g hg => Nat.le_trans hH.size (hr.lt g hg).1))
          replace HW := Lib.hid (own_below HW.out hbr)
          refine hK.out _ _ (hH.trans (hbr.mono hH.size)) (fun hH => ?_)
          clear hK K
          clear hr hbr HX
          try simp only [Act.put, List.setIfInBounds_toArray, List.set_cons_zero, List.set_cons_succ]
          refine wpAnyH_take (i := 7) (oi := ⟨some 12, _, _, _, _, _⟩) (v := ?v9) rfl (by kernel_rfl) (by kernel_rfl) (by kernel_rfl) (fun _ _ _ h => h) (Or.inl ⟨rfl, ?c9⟩) hH ?r9
          case c9 => (intro w' _; go_simp; (try with_reducible rfl))
          try simp only [Act.put, List.setIfInBounds_toArray, List.set_cons_zero, List.set_cons_succ]
          refine wpAnyH_ready (rs := [8]) (by kernel_rfl) (by simp) (AllReadyH.cons rfl (fun K hK => ?_) (AllReadyH.nil))
          have HB8 := Lib.hid hH
          go_simp
          refine hK.out _ _ (hH.trans ((below_box _ _).mono hH.size)) (fun hH => ?_)
          clear hK K
          try simp only [Act.put, List.setIfInBounds_toArray, List.set_cons_zero, List.set_cons_succ]
          refine wpAnyH_take (i := 9) (oi := ⟨some 4, _, _, _, _, _⟩) (v := ?v10) rfl (by kernel_rfl) (by kernel_rfl) (by kernel_rfl) (fun _ _ _ h => h) (Or.inl ⟨rfl, ?c10⟩) hH ?r10
          case c10 => (intro w' _; go_simp; (try with_reducible rfl))
          try simp only [Act.put, List.setIfInBounds_toArray, List.set_cons_zero, List.set_cons_succ]
          refine wpAnyH_done (by kernel_rfl) ?_ _
          have HB9 := Lib.hid hH
          clear hH
          go_wp2_with fail
          go_ret
          have HP := new_raw HB8.out HW.out HR.out HNE.out HN.out HM.out
          exact ⟨_, _, rfl, ⟨⟨_, _, _, HP⟩, newS_ok _ _⟩, HB9.out, fun j hj => And.left hj⟩
        · go_simp
          go_at_call 30
          refine (repeat_any _ (-1) m hm8 _ HX.out).mono ?_
          rintro e w6 ⟨rfl, hr, hbr⟩
          have HR := Lib.hid (row_base (b2 := w.heap.size) hr (fun g hg => Nat.le_trans hH.size (hr.lt g hg).1))
          
          refine hK.out _ _ (hH.trans (hbr.mono hH.size)) (fun hH => ?_)
          clear hK K
          clear hr hbr HX
          try simp only [Act.put, List.setIfInBounds_toArray, List.set_cons_zero, List.set_cons_succ]
          refine wpAnyH_ready (rs := [2]) (by kernel_rfl) (by simp) (AllReadyH.cons rfl (fun K hK => ?_) (AllReadyH.nil))
          have HNE := Lib.hid (Nat.ne_of_gt (HR.out.lt _ rfl).2)
          refine step_make rfl (.tmp 6) (.tmp 6) 41 rfl w.heap.size 27 (.int .u64 0) 1 8 Try.underlying41 info_word (by omega) .i64 n rfl rfl hn0 hH.size ?_
          intro w2 hown hbm
          change K (Act.put _ (some 7) (.slice (some ⟨_, 0, none⟩) n n)) _
          have HW := hown
          replace HR := Lib.hid (own_below HR.out hbm.out)
          refine hK.out _ _ (hH.trans (hbm.out.mono hH.size)) (fun hH => ?_)
          clear hK K
          clear hown hbm
          try simp only [Act.put, List.setIfInBounds_toArray, List.set_cons_zero, List.set_cons_succ]
          refine wpAnyH_take (i := 7) (oi := ⟨some 12, _, _, _, _, _⟩) (v := ?v11) rfl (by kernel_rfl) (by kernel_rfl) (by kernel_rfl) (fun _ _ _ h => h) (Or.inl ⟨rfl, ?c11⟩) hH ?r11
          case c11 => (intro w' _; go_simp; (try with_reducible rfl))
          try simp only [Act.put, List.setIfInBounds_toArray, List.set_cons_zero, List.set_cons_succ]
          refine wpAnyH_ready (rs := [8]) (by kernel_rfl) (by simp) (AllReadyH.cons rfl (fun K hK => ?_) (AllReadyH.nil))
          have HB8 := Lib.hid hH
          go_simp
          refine hK.out _ _ (hH.trans ((below_box _ _).mono hH.size)) (fun hH => ?_)
          clear hK K
          try simp only [Act.put, List.setIfInBounds_toArray, List.set_cons_zero, List.set_cons_succ]
          refine wpAnyH_take (i := 9) (oi := ⟨some 4, _, _, _, _, _⟩) (v := ?v12) rfl (by kernel_rfl) (by kernel_rfl) (by kernel_rfl) (fun _ _ _ h => h) (Or.inl ⟨rfl, ?c12⟩) hH ?r12
          case c12 => (intro w' _; go_simp; (try with_reducible rfl))
          try simp only [Act.put, List.setIfInBounds_toArray, List.set_cons_zero, List.set_cons_succ]
          refine wpAnyH_done (by kernel_rfl) ?_ _
          have HB9 := Lib.hid hH
          clear hH
          go_wp2_with fail
          go_ret
          have HP := new_raw HB8.out HW.out HR.out HNE.out HN.out HM.out
          exact ⟨_, _, rfl, ⟨⟨_, _, _, HP⟩, newS_ok _ _⟩, HB9.out, fun j hj => And.left hj⟩
    · go_simp
      go_at_call 29
      refine (HCL.out b m (.inr ⟨rfl, rfl⟩) _).mono ?_
      rintro e w9 ⟨rfl, rfl⟩
      refine hK.out _ _ (hH) (fun hH => ?_)
      clear hK K
      try simp only [Act.put, List.setIfInBounds_toArray, List.set_cons_zero, List.set_cons_succ]
      refine wpAnyH_ready (rs := [2, 3]) (by kernel_rfl) (by simp) (AllReadyH.cons rfl (fun K hK => ?_) (AllReadyH.cons rfl (fun K hK => ?_) (AllReadyH.nil)))
      · refine step_make rfl (.tmp 6) (.tmp 6) 41 rfl w.heap.size 27 (.int .u64 0) 1 8 Try.underlying41 info_word (by omega) .i64 n rfl rfl hn0 hH.size ?_
        intro w2 hown hbm
        change K (Act.put _ (some 7) (.slice (some ⟨_, 0, none⟩) n n)) _
        have HW := hown
        
        refine hK.out _ _ (hH.trans (hbm.out.mono hH.size)) (fun hH => ?_)
        clear hK K
        clear hown hbm
        try simp only [Act.put, List.setIfInBounds_toArray, List.set_cons_zero, List.set_cons_succ]
        refine wpAnyH_ready (rs := [3]) (by kernel_rfl) (by simp) (AllReadyH.cons rfl (fun K hK => ?_) (AllReadyH.nil))
        go_simp
        refine at_world (fun V hV => ?_)
        have hbl : Below _ _ V := (by rw [hV]; exact below_box _ _)
        have HX : Hid (V.cell? ⟨_, 0, none⟩ = some (.int .i64 (-1))) := (show _ = _ by rw [hV]; exact (Blk.box _ _ _).cell 0 _ rfl)
        replace HW := Lib.hid (own_below HW.out hbl)
        refine hK.out _ _ (hH.trans (hbl.mono hH.size)) (fun hH => ?_)
        clear hK K
        clear hV hbl
        try simp only [Act.put, List.setIfInBounds_toArray, List.set_cons_zero, List.set_cons_succ]
        refine wpAnyH_ready (rs := [6]) (by kernel_rfl) (by simp) (AllReadyH.cons rfl (fun K hK => ?_) (AllReadyH.nil))
        go_simp
        have HNE := Lib.hid (Nat.ne_of_lt (HW.out.lt _ rfl).2)
        go_at_call 30
        refine (repeat_any _ (-1) m hm8 _ HX.out).mono ?_
        rintro e w6 ⟨rfl, hr, hbr⟩
        have HR := Lib.hid (row_base (b2 := w.heap.size) hr (fun g hg => Nat.le_trans hH.size (hr.lt g hg).1))
        replace HW := Lib.hid (own_below HW.out hbr)
        refine hK.out _ _ (hH.trans (hbr.mono hH.size)) (fun hH => ?_)
        clear hK K
        clear hr hbr HX
        try simp only [Act.put, List.setIfInBounds_toArray, List.set_cons_zero, List.set_cons_succ]
        refine wpAnyH_take (i := 7) (oi := ⟨some 12, _, _, _, _, _⟩) (v := ?v13) rfl (by kernel_rfl) (by kernel_rfl) (by kernel_rfl) (fun _ _ _ h => h) (Or.inl ⟨rfl, ?c13⟩) hH ?r13
        case c13 => (intro w' _; go_simp; (try with_reducible rfl))
        try simp only [Act.put, List.setIfInBounds_toArray, List.set_cons_zero, List.set_cons_succ]
        refine wpAnyH_ready (rs := [8]) (by kernel_rfl) (by simp) (AllReadyH.cons rfl (fun K hK => ?_) (AllReadyH.nil))
        have HB8 := Lib.hid hH
        go_simp
        refine hK.out _ _ (hH.trans ((below_box _ _).mono hH.size)) (fun hH => ?_)
        clear hK K
        try simp only [Act.put, List.setIfInBounds_toArray, List.set_cons_zero, List.set_cons_succ]
        refine wpAnyH_take (i := 9) (oi := ⟨some 4, _, _, _, _, _⟩) (v := ?v14) rfl (by kernel_rfl) (by kernel_rfl) (by kernel_rfl) (fun _ _ _ h => h) (Or.inl ⟨rfl, ?c14⟩) hH ?r14
        case c14 => (intro w' _; go_simp; (try with_reducible rfl))
        try simp only [Act.put, List.setIfInBounds_toArray, List.set_cons_zero, List.set_cons_succ]
        refine wpAnyH_done (by kernel_rfl) ?_ _
        have HB9 := Lib.hid hH
        clear hH
        go_wp2_with fail
        go_ret
        have HP := new_raw HB8.out HW.out HR.out HNE.out HN.out HM.out
        exact ⟨_, _, rfl, ⟨⟨_, _, _, HP⟩, newS_ok _ _⟩, HB9.out, fun j hj => And.left hj⟩
      · go_simp
        refine at_world (fun V hV => ?_)
        have hbl : Below _ w.drew V := (by rw [hV]; exact below_box w.drew _)
        have HX : Hid (V.cell? ⟨_, 0, none⟩ = some (.int .i64 (-1))) := (show _ = _ by rw [hV]; exact (Blk.box w.drew _ _).cell 0 _ rfl)
        
        refine hK.out _ _ (hH.trans (hbl.mono hH.size)) (fun hH => ?_)
        clear hK K
        clear hV hbl
        try simp only [Act.put, List.setIfInBounds_toArray, List.set_cons_zero, List.set_cons_succ]
        refine wpAnyH_ready (rs := [2, 6]) (by kernel_rfl) (by simp) (AllReadyH.cons rfl (fun K hK => ?_) (AllReadyH.cons rfl (fun K hK => ?_) (AllReadyH.nil)))
        · refine step_make rfl (.tmp 6) (.tmp 6) 41 rfl w.heap.size 27 (.int .u64 0) 1 8 Try.underlying41 info_word (by omega) .i64 n rfl rfl hn0 hH.size ?_
          intro w2 hown hbm
          change K (Act.put _ (some 7) (.slice (some ⟨_, 0, none⟩) n n)) _
          have HW := hown
          replace HX := Lib.hid ((hbm.out.cell (p := ⟨_, 0, none⟩) (World.block_lt_of_cell? _ _ HX.out)).trans HX.out)
          refine hK.out _ _ (hH.trans (hbm.out.mono hH.size)) (fun hH => ?_)
          clear hK K
          clear hown hbm
          try simp only [Act.put, List.setIfInBounds_toArray, List.set_cons_zero, List.set_cons_succ]
          refine wpAnyH_ready (rs := [6]) (by kernel_rfl) (by simp) (AllReadyH.cons rfl (fun K hK => ?_) (AllReadyH.nil))
          go_simp
          have HNE := Lib.hid (Nat.ne_of_lt (HW.out.lt _ rfl).2)
          go_at_call 30
          refine (repeat_any _ (-1) m hm8 _ HX.out).mono ?_
          rintro e w6 ⟨rfl, hr, hbr⟩
          have HR := Lib.hid (row_base (b2 := w.heap.size) hr (fun g hg => Nat.le_trans hH.size (hr.lt g hg).1))
          replace HW := Lib.hid (own_below HW.out hbr)
          refine hK.out _ _ (hH.trans (hbr.mono hH.size)) (fun hH => ?_)
          clear hK K
          clear hr hbr HX
          try simp only [Act.put, List.setIfInBounds_toArray, List.set_cons_zero, List.set_cons_succ]
          refine wpAnyH_take (i := 7) (oi := ⟨some 12, _, _, _, _, _⟩) (v := ?v15) rfl (by kernel_rfl) (by kernel_rfl) (by kernel_rfl) (fun _ _ _ h => h) (Or.inl ⟨rfl, ?c15⟩) hH ?r15
          case c15 => (intro w' _; go_simp; (try with_reducible rfl))
          try simp only [Act.put, List.setIfInBounds_toArray, List.set_cons_zero, List.set_cons_succ]
          refine wpAnyH_ready (rs := [8]) (by kernel_rfl) (by simp) (AllReadyH.cons rfl (fun K hK => ?_) (AllReadyH.nil))
          have HB8 := Lib.hid hH
          go_simp
          refine hK.out _ _ (hH.trans ((below_box _ _).mono hH.size)) (fun hH => ?_)
          clear hK K
          try simp only [Act.put, List.setIfInBounds_toArray, List.set_cons_zero, List.set_cons_succ]
          refine wpAnyH_take (i := 9) (oi := ⟨some 4, _, _, _, _, _⟩) (v := ?v16) rfl (by kernel_rfl) (by kernel_rfl) (by kernel_rfl) (fun _ _ _ h => h) (Or.inl ⟨rfl, ?c16⟩) hH ?r16
          case c16 => (intro w' _; go_simp; (try with_reducible rfl))
          try simp only [Act.put, List.setIfInBounds_toArray, List.set_cons_zero, List.set_cons_succ]
          refine wpAnyH_done (by kernel_rfl) ?_ _
          have HB9 := Lib.hid hH
          clear hH
          go_wp2_with fail
          go_ret
          have HP := new_raw HB8.out HW.out HR.out HNE.out HN.out HM.out
          exact ⟨_, _, rfl, ⟨⟨_, _, _, HP⟩, newS_ok _ _⟩, HB9.out, fun j hj => And.left hj⟩
        · go_simp
          go_at_call 30
          refine (repeat_any _ (-1) m hm8 _ HX.out).mono ?_
          rintro e w6 ⟨rfl, hr, hbr⟩
          have HR := Lib.hid (row_base (b2 := w.heap.size) hr (fun g hg => Nat.le_trans hH.size (hr.lt g hg).1))
          
          refine hK.out _ _ (hH.trans (hbr.mono hH.size)) (fun hH => ?_)
          clear hK K
          clear hr hbr HX
          try simp only [Act.put, List.setIfInBounds_toArray, List.set_cons_zero, List.set_cons_succ]
          refine wpAnyH_ready (rs := [2]) (by kernel_rfl) (by simp) (AllReadyH.cons rfl (fun K hK => ?_) (AllReadyH.nil))
          have HNE := Lib.hid (Nat.ne_of_gt (HR.out.lt _ rfl).2)
          refine step_make rfl (.tmp 6) (.tmp 6) 41 rfl w.heap.size 27 (.int .u64 0) 1 8 Try.underlying41 info_word (by omega) .i64 n rfl rfl hn0 hH.size ?_
          intro w2 hown hbm
          change K (Act.put _ (some 7) (.slice (some ⟨_, 0, none⟩) n n)) _
          have HW := hown
          replace HR := Lib.hid (own_below HR.out hbm.out)
          refine hK.out _ _ (hH.trans (hbm.out.mono hH.size)) (fun hH => ?_)
          clear hK K
          clear hown hbm
          try simp only [Act.put, List.setIfInBounds_toArray, List.set_cons_zero, List.set_cons_succ]
          refine wpAnyH_take (i := 7) (oi := ⟨some 12, _, _, _, _, _⟩) (v := ?v17) rfl (by kernel_rfl) (by kernel_rfl) (by kernel_rfl) (fun _ _ _ h => h) (Or.inl ⟨rfl, ?c17⟩) hH ?r17
          case c17 => (intro w' _; go_simp; (try with_reducible rfl))
          try simp only [Act.put, List.setIfInBounds_toArray, List.set_cons_zero, List.set_cons_succ]
          refine wpAnyH_ready (rs := [8]) (by kernel_rfl) (by simp) (AllReadyH.cons rfl (fun K hK => ?_) (AllReadyH.nil))
          have HB8 := Lib.hid hH
          go_simp
          refine hK.out _ _ (hH.trans ((below_box _ _).mono hH.size)) (fun hH => ?_)
          clear hK K
          try simp only [Act.put, List.setIfInBounds_toArray, List.set_cons_zero, List.set_cons_succ]
          refine wpAnyH_take (i := 9) (oi := ⟨some 4, _, _, _, _, _⟩) (v := ?v18) rfl (by kernel_rfl) (by kernel_rfl) (by kernel_rfl) (fun _ _ _ h => h) (Or.inl ⟨rfl, ?c18⟩) hH ?r18
          case c18 => (intro w' _; go_simp; (try with_reducible rfl))
          try simp only [Act.put, List.setIfInBounds_toArray, List.set_cons_zero, List.set_cons_succ]
          refine wpAnyH_done (by kernel_rfl) ?_ _
          have HB9 := Lib.hid hH
          clear hH
          go_wp2_with fail
          go_ret
          have HP := new_raw HB8.out HW.out HR.out HNE.out HN.out HM.out
          exact ⟨_, _, rfl, ⟨⟨_, _, _, HP⟩, newS_ok _ _⟩, HB9.out, fun j hj => And.left hj⟩
  · go_simp
    refine at_world (fun V hV => ?_)
    have hbl : Below _ w.drew V := (by rw [hV]; exact below_box w.drew _)
    have HX : Hid (V.cell? ⟨_, 0, none⟩ = some (.int .i64 (-1))) := (show _ = _ by rw [hV]; exact (Blk.box w.drew _ _).cell 0 _ rfl)
    
    refine hK.out _ _ (hH.trans (hbl.mono hH.size)) (fun hH => ?_)
    clear hK K
    clear hV hbl
    try simp only [Act.put, List.setIfInBounds_toArray, List.set_cons_zero, List.set_cons_succ]
    refine wpAnyH_ready (rs := [1]) (by kernel_rfl) (by simp) (AllReadyH.cons rfl (fun K hK => ?_) (AllReadyH.nil))
    go_simp
    go_at_call 29
    refine (HCL.out a n (.inl ⟨rfl, rfl⟩) _).mono ?_
    rintro e w9 ⟨rfl, rfl⟩
    refine hK.out _ _ (hH) (fun hH => ?_)
    clear hK K
    try simp only [Act.put, List.setIfInBounds_toArray, List.set_cons_zero, List.set_cons_succ]
    refine wpAnyH_ready (rs := [2, 5]) (by kernel_rfl) (by simp) (AllReadyH.cons rfl (fun K hK => ?_) (AllReadyH.cons rfl (fun K hK => ?_) (AllReadyH.nil)))
    · refine step_make rfl (.tmp 6) (.tmp 6) 41 rfl w.heap.size 27 (.int .u64 0) 1 8 Try.underlying41 info_word (by omega) .i64 n rfl rfl hn0 hH.size ?_
      intro w2 hown hbm
      change K (Act.put _ (some 7) (.slice (some ⟨_, 0, none⟩) n n)) _
      have HW := hown
      replace HX := Lib.hid ((hbm.out.cell (p := ⟨_, 0, none⟩) (World.block_lt_of_cell? _ _ HX.out)).trans HX.out)
      refine hK.out _ _ (hH.trans (hbm.out.mono hH.size)) (fun hH => ?_)
      clear hK K
      clear hown hbm
      try simp only [Act.put, List.setIfInBounds_toArray, List.set_cons_zero, List.set_cons_succ]
      refine wpAnyH_ready (rs := [5]) (by kernel_rfl) (by simp) (AllReadyH.cons rfl (fun K hK => ?_) (AllReadyH.nil))
      go_simp
      go_at_call 29
      refine (HCL.out b m (.inr ⟨rfl, rfl⟩) _).mono ?_
      rintro e w9 ⟨rfl, rfl⟩
      refine hK.out _ _ (hH) (fun hH => ?_)
      clear hK K
      try simp only [Act.put, List.setIfInBounds_toArray, List.set_cons_zero, List.set_cons_succ]
      refine wpAnyH_ready (rs := [6]) (by kernel_rfl) (by simp) (AllReadyH.cons rfl (fun K hK => ?_) (AllReadyH.nil))
      go_simp
      have HNE := Lib.hid (Nat.ne_of_lt (HW.out.lt _ rfl).2)
      go_at_call 30
      refine (repeat_any _ (-1) m hm8 _ HX.out).mono ?_
      rintro e w6 ⟨rfl, hr, hbr⟩
      have HR := Lib.hid (row_base (b2 := w.heap.size) hr (fun g hg => Nat.le_trans hH.size (hr.lt g hg).1))
      replace HW := Lib.hid (own_below HW.out hbr)
      refine hK.out _ _ (hH.trans (hbr.mono hH.size)) (fun hH => ?_)
      clear hK K
      clear hr hbr HX
      try simp only [Act.put, List.setIfInBounds_toArray, List.set_cons_zero, List.set_cons_succ]
      refine wpAnyH_take (i := 7) (oi := ⟨some 12, _, _, _, _, _⟩) (v := ?v19) rfl (by kernel_rfl) (by kernel_rfl) (by kernel_rfl) (fun _ _ _ h => h) (Or.inl ⟨rfl, ?c19⟩) hH ?r19
      case c19 => (intro w' _; go_simp; (try with_reducible rfl))
      try simp only [Act.put, List.setIfInBounds_toArray, List.set_cons_zero, List.set_cons_succ]
      refine wpAnyH_ready (rs := [8]) (by kernel_rfl) (by simp) (AllReadyH.cons rfl (fun K hK => ?_) (AllReadyH.nil))
      have HB8 := Lib.hid hH
      go_simp
      refine hK.out _ _ (hH.trans ((below_box _ _).mono hH.size)) (fun hH => ?_)
      clear hK K
      try simp only [Act.put, List.setIfInBounds_toArray, List.set_cons_zero, List.set_cons_succ]
      refine wpAnyH_take (i := 9) (oi := ⟨some 4, _, _, _, _, _⟩) (v := ?v20) rfl (by kernel_rfl) (by kernel_rfl) (by kernel_rfl) (fun _ _ _ h => h) (Or.inl ⟨rfl, ?c20⟩) hH ?r20
      case c20 => (intro w' _; go_simp; (try with_reducible rfl))
      try simp only [Act.put, List.setIfInBounds_toArray, List.set_cons_zero, List.set_cons_succ]
      refine wpAnyH_done (by kernel_rfl) ?_ _
      have HB9 := Lib.hid hH
      clear hH
      go_wp2_with fail
      go_ret
      have HP := new_raw HB8.out HW.out HR.out HNE.out HN.out HM.out
      exact ⟨_, _, rfl, ⟨⟨_, _, _, HP⟩, newS_ok _ _⟩, HB9.out, fun j hj => And.left hj⟩
    · go_simp
      go_at_call 29
      refine (HCL.out b m (.inr ⟨rfl, rfl⟩) _).mono ?_
      rintro e w9 ⟨rfl, rfl⟩
      refine hK.out _ _ (hH) (fun hH => ?_)
      clear hK K
      try simp only [Act.put, List.setIfInBounds_toArray, List.set_cons_zero, List.set_cons_succ]
      refine wpAnyH_ready (rs := [2, 6]) (by kernel_rfl) (by simp) (AllReadyH.cons rfl (fun K hK => ?_) (AllReadyH.cons rfl (fun K hK => ?_) (AllReadyH.nil)))
      · refine step_make rfl (.tmp 6) (.tmp 6) 41 rfl w.heap.size 27 (.int .u64 0) 1 8 Try.underlying41 info_word (by omega) .i64 n rfl rfl hn0 hH.size ?_
        intro w2 hown hbm
        change K (Act.put _ (some 7) (.slice (some ⟨_, 0, none⟩) n n)) _
        have HW := hown
        replace HX := Lib.hid ((hbm.out.cell (p := ⟨_, 0, none⟩) (World.block_lt_of_cell? _ _ HX.out)).trans HX.out)
        refine hK.out _ _ (hH.trans (hbm.out.mono hH.size)) (fun hH => ?_)
        clear hK K
        clear hown hbm
        try simp only [Act.put, List.setIfInBounds_toArray, List.set_cons_zero, List.set_cons_succ]
        refine wpAnyH_ready (rs := [6]) (by kernel_rfl) (by simp) (AllReadyH.cons rfl (fun K hK => ?_) (AllReadyH.nil))
        go_simp
        have HNE := Lib.hid (Nat.ne_of_lt (HW.out.lt _ rfl).2)
        go_at_call 30
        refine (repeat_any _ (-1) m hm8 _ HX.out).mono ?_
        rintro e w6 ⟨rfl, hr, hbr⟩
        have HR := Lib.hid (row_base (b2 := w.heap.size) hr (fun g hg => Nat.le_trans hH.size (hr.lt g hg).1))
        replace HW := Lib.hid (own_below HW.out hbr)
        refine hK.out _ _ (hH.trans (hbr.mono hH.size)) (fun hH => ?_)
        clear hK K
        clear hr hbr HX
        try simp only [Act.put, List.setIfInBounds_toArray, List.set_cons_zero, List.set_cons_succ]
        refine wpAnyH_take (i := 7) (oi := ⟨some 12, _, _, _, _, _⟩) (v := ?v21) rfl (by kernel_rfl) (by kernel_rfl) (by kernel_rfl) (fun _ _ _ h => h) (Or.inl ⟨rfl, ?c21⟩) hH ?r21
        case c21 => (intro w' _; go_simp; (try with_reducible rfl))
        try simp only [Act.put, List.setIfInBounds_toArray, List.set_cons_zero, List.set_cons_succ]
        refine wpAnyH_ready (rs := [8]) (by kernel_rfl) (by simp) (AllReadyH.cons rfl (fun K hK => ?_) (AllReadyH.nil))
        have HB8 := Lib.hid hH
        go_simp
        refine hK.out _ _ (hH.trans ((below_box _ _).mono hH.size)) (fun hH => ?_)
        clear hK K
        try simp only [Act.put, List.setIfInBounds_toArray, List.set_cons_zero, List.set_cons_succ]
        refine wpAnyH_take (i := 9) (oi := ⟨some 4, _, _, _, _, _⟩) (v := ?v22) rfl (by kernel_rfl) (by kernel_rfl) (by kernel_rfl) (fun _ _ _ h => h) (Or.inl ⟨rfl, ?c22⟩) hH ?r22
        case c22 => (intro w' _; go_simp; (try with_reducible rfl))
        try simp only [Act.put, List.setIfInBounds_toArray, List.set_cons_zero, List.set_cons_succ]
        refine wpAnyH_done (by kernel_rfl) ?_ _
        have HB9 := Lib.hid hH
        clear hH
        go_wp2_with fail
        go_ret
        have HP := new_raw HB8.out HW.out HR.out HNE.out HN.out HM.out
        exact ⟨_, _, rfl, ⟨⟨_, _, _, HP⟩, newS_ok _ _⟩, HB9.out, fun j hj => And.left hj⟩
      · go_simp
        go_at_call 30
        refine (repeat_any _ (-1) m hm8 _ HX.out).mono ?_
        rintro e w6 ⟨rfl, hr, hbr⟩
        have HR := Lib.hid (row_base (b2 := w.heap.size) hr (fun g hg => Nat.le_trans hH.size (hr.lt g hg).1))
        
        refine hK.out _ _ (hH.trans (hbr.mono hH.size)) (fun hH => ?_)
        clear hK K
        clear hr hbr HX
        try simp only [Act.put, List.setIfInBounds_toArray, List.set_cons_zero, List.set_cons_succ]
        refine wpAnyH_ready (rs := [2]) (by kernel_rfl) (by simp) (AllReadyH.cons rfl (fun K hK => ?_) (AllReadyH.nil))
        have HNE := Lib.hid (Nat.ne_of_gt (HR.out.lt _ rfl).2)
        refine step_make rfl (.tmp 6) (.tmp 6) 41 rfl w.heap.size 27 (.int .u64 0) 1 8 Try.underlying41 info_word (by omega) .i64 n rfl rfl hn0 hH.size ?_
        intro w2 hown hbm
        change K (Act.put _ (some 7) (.slice (some ⟨_, 0, none⟩) n n)) _
        have HW := hown
        replace HR := Lib.hid (own_below HR.out hbm.out)
        refine hK.out _ _ (hH.trans (hbm.out.mono hH.size)) (fun hH => ?_)
        clear hK K
        clear hown hbm
        try simp only [Act.put, List.setIfInBounds_toArray, List.set_cons_zero, List.set_cons_succ]
        refine wpAnyH_take (i := 7) (oi := ⟨some 12, _, _, _, _, _⟩) (v := ?v23) rfl (by kernel_rfl) (by kernel_rfl) (by kernel_rfl) (fun _ _ _ h => h) (Or.inl ⟨rfl, ?c23⟩) hH ?r23
        case c23 => (intro w' _; go_simp; (try with_reducible rfl))
        try simp only [Act.put, List.setIfInBounds_toArray, List.set_cons_zero, List.set_cons_succ]
        refine wpAnyH_ready (rs := [8]) (by kernel_rfl) (by simp) (AllReadyH.cons rfl (fun K hK => ?_) (AllReadyH.nil))
        have HB8 := Lib.hid hH
        go_simp
        refine hK.out _ _ (hH.trans ((below_box _ _).mono hH.size)) (fun hH => ?_)
        clear hK K
        try simp only [Act.put, List.setIfInBounds_toArray, List.set_cons_zero, List.set_cons_succ]
        refine wpAnyH_take (i := 9) (oi := ⟨some 4, _, _, _, _, _⟩) (v := ?v24) rfl (by kernel_rfl) (by kernel_rfl) (by kernel_rfl) (fun _ _ _ h => h) (Or.inl ⟨rfl, ?c24⟩) hH ?r24
        case c24 => (intro w' _; go_simp; (try with_reducible rfl))
        try simp only [Act.put, List.setIfInBounds_toArray, List.set_cons_zero, List.set_cons_succ]
        refine wpAnyH_done (by kernel_rfl) ?_ _
        have HB9 := Lib.hid hH
        clear hH
        go_wp2_with fail
        go_ret
        have HP := new_raw HB8.out HW.out HR.out HNE.out HN.out HM.out
        exact ⟨_, _, rfl, ⟨⟨_, _, _, HP⟩, newS_ok _ _⟩, HB9.out, fun j hj => And.left hj⟩
set_option maxHeartbeats 8000000 in
theorem refNew_any (a b : Int) (w : World) : Calls Try.prog 8 #[.int .i64 a, .int .i64 b] w fun e w' => ∃ O B, e = .returned (ptr B) ∧ RAt w' O B (newS a b) ∧ Below w.heap.size w w' ∧ ∀ j, O j → w.heap.size ≤ j := by
  have hn8 := clamp_le a
  have hm8 := clamp_le b
  have HCL : Hid (∀ x y : Int, (x = a ∧ y = (clampN a : Int)) ∨ (x = b ∧ y = (clampN b : Int)) → ∀ W, Calls Try.prog 31 #[.int .i64 x] W fun e w' => e = .returned (.int .i64 y) ∧ W = w') := by
    intro x y h W
    rcases h with ⟨rfl, rfl⟩ | ⟨rfl, rfl⟩
    · exact near_any _ W
    · exact near_any _ W
  obtain ⟨n, hn⟩ : ∃ n, clampN a = n := ⟨_, rfl⟩
  obtain ⟨m, hm⟩ : ∃ m, clampN b = m := ⟨_, rfl⟩
  rw [hn, hm] at HCL
  rw [hn] at hn8
  rw [hm] at hm8
  have hn0 : n ≤ 1000000000000 := by omega
  have hm0 : m ≤ 1000000000000 := by omega
  have HN := Lib.hid hn
  have HM := Lib.hid hm
  clear hn hm
  go_enter Try.func8, Try.ntmps8
  go_wp2_with fail
  refine wp_region_held_drew (S := fun w' => Below w.heap.size w w') (by kernel_rfl) ((Below.refl _ _).drew) (fun hH => ?_)
  refine wpAnyH_take (i := 0) (oi := ⟨some 5, _, _, _, _, _⟩) (v := ?v1) rfl (by kernel_rfl) (by kernel_rfl) (by kernel_rfl) (fun _ _ _ h => h) (Or.inl ⟨rfl, ?c1⟩) hH ?r1
  case c1 => (intro w' _; go_simp; (try with_reducible rfl))
  try simp only [Act.put, List.setIfInBounds_toArray, List.set_cons_zero, List.set_cons_succ]
  refine wpAnyH_take (i := 3) (oi := ⟨some 8, _, _, _, _, _⟩) (v := ?v2) rfl (by kernel_rfl) (by kernel_rfl) (by kernel_rfl) (fun _ _ _ h => h) (Or.inl ⟨rfl, ?c2⟩) hH ?r2
  case c2 => (intro w' _; go_simp; (try with_reducible rfl))
  try simp only [Act.put, List.setIfInBounds_toArray, List.set_cons_zero, List.set_cons_succ]
  refine wpAnyH_ready (rs := [1]) (by kernel_rfl) (by simp) (AllReadyH.cons rfl (fun K hK => ?_) (AllReadyH.nil))
  go_simp
  go_at_call 31
  refine (HCL.out a n (.inl ⟨rfl, rfl⟩) _).mono ?_
  rintro e w9 ⟨rfl, rfl⟩
  refine hK.out _ _ (hH) (fun hH => ?_)
  clear hK K
  try simp only [Act.put, List.setIfInBounds_toArray, List.set_cons_zero, List.set_cons_succ]
  refine wpAnyH_ready (rs := [2, 4]) (by kernel_rfl) (by simp) (AllReadyH.cons rfl (fun K hK => ?_) (AllReadyH.cons rfl (fun K hK => ?_) (AllReadyH.nil)))
  · refine step_make rfl (.tmp 6) (.tmp 6) 41 rfl w.heap.size 27 (.int .u64 0) 1 8 Try.underlying41 info_word (by omega) .i64 n rfl rfl hn0 hH.size ?_
    intro w2 hown hbm
    change K (Act.put _ (some 7) (.slice (some ⟨_, 0, none⟩) n n)) _
    have HW := hown
    
    refine hK.out _ _ (hH.trans (hbm.out.mono hH.size)) (fun hH => ?_)
    clear hK K
    clear hown hbm
    try simp only [Act.put, List.setIfInBounds_toArray, List.set_cons_zero, List.set_cons_succ]
    refine wpAnyH_ready (rs := [4]) (by kernel_rfl) (by simp) (AllReadyH.cons rfl (fun K hK => ?_) (AllReadyH.nil))
    go_simp
    go_at_call 31
    refine (HCL.out b m (.inr ⟨rfl, rfl⟩) _).mono ?_
    rintro e w9 ⟨rfl, rfl⟩
    refine hK.out _ _ (hH) (fun hH => ?_)
    clear hK K
    try simp only [Act.put, List.setIfInBounds_toArray, List.set_cons_zero, List.set_cons_succ]
    refine wpAnyH_ready (rs := [5]) (by kernel_rfl) (by simp) (AllReadyH.cons rfl (fun K hK => ?_) (AllReadyH.nil))
    have HNE := Lib.hid (Nat.ne_of_lt (HW.out.lt _ rfl).2)
    refine step_make rfl (.tmp 9) (.tmp 9) 41 rfl w.heap.size 27 (.int .u64 0) 1 8 Try.underlying41 info_word (by omega) .i64 m rfl rfl hm0 hH.size ?_
    intro w2 hown hbm
    change K (Act.put _ (some 10) (.slice (some ⟨_, 0, none⟩) m m)) _
    have HR := hown
    replace HW := Lib.hid (own_below HW.out hbm.out)
    refine hK.out _ _ (hH.trans (hbm.out.mono hH.size)) (fun hH => ?_)
    clear hK K
    clear hown hbm
    try simp only [Act.put, List.setIfInBounds_toArray, List.set_cons_zero, List.set_cons_succ]
    refine wpAnyH_take (i := 6) (oi := ⟨some 11, _, _, _, _, _⟩) (v := ?v3) rfl (by kernel_rfl) (by kernel_rfl) (by kernel_rfl) (fun _ _ _ h => h) (Or.inl ⟨rfl, ?c3⟩) hH ?r3
    case c3 => (intro w' _; go_simp; (try with_reducible rfl))
    try simp only [Act.put, List.setIfInBounds_toArray, List.set_cons_zero, List.set_cons_succ]
    refine wpAnyH_ready (rs := [7]) (by kernel_rfl) (by simp) (AllReadyH.cons rfl (fun K hK => ?_) (AllReadyH.nil))
    have HB8 := Lib.hid hH
    go_simp
    refine hK.out _ _ (hH.trans ((below_box _ _).mono hH.size)) (fun hH => ?_)
    clear hK K
    try simp only [Act.put, List.setIfInBounds_toArray, List.set_cons_zero, List.set_cons_succ]
    refine wpAnyH_take (i := 8) (oi := ⟨some 4, _, _, _, _, _⟩) (v := ?v4) rfl (by kernel_rfl) (by kernel_rfl) (by kernel_rfl) (fun _ _ _ h => h) (Or.inl ⟨rfl, ?c4⟩) hH ?r4
    case c4 => (intro w' _; go_simp; (try with_reducible rfl))
    try simp only [Act.put, List.setIfInBounds_toArray, List.set_cons_zero, List.set_cons_succ]
    refine wpAnyH_done (by kernel_rfl) ?_ _
    have HB9 := Lib.hid hH
    clear hH
    go_wp2_with fail
    go_ret
    have HP := rnew_raw HB8.out HW.out HR.out HNE.out HN.out HM.out
    exact ⟨_, _, rfl, ⟨⟨_, _, _, HP⟩, newS_ok _ _⟩, HB9.out, fun j hj => And.left hj⟩
  · go_simp
    go_at_call 31
    refine (HCL.out b m (.inr ⟨rfl, rfl⟩) _).mono ?_
    rintro e w9 ⟨rfl, rfl⟩
    refine hK.out _ _ (hH) (fun hH => ?_)
    clear hK K
    try simp only [Act.put, List.setIfInBounds_toArray, List.set_cons_zero, List.set_cons_succ]
    refine wpAnyH_ready (rs := [2, 5]) (by kernel_rfl) (by simp) (AllReadyH.cons rfl (fun K hK => ?_) (AllReadyH.cons rfl (fun K hK => ?_) (AllReadyH.nil)))
    · refine step_make rfl (.tmp 6) (.tmp 6) 41 rfl w.heap.size 27 (.int .u64 0) 1 8 Try.underlying41 info_word (by omega) .i64 n rfl rfl hn0 hH.size ?_
      intro w2 hown hbm
      change K (Act.put _ (some 7) (.slice (some ⟨_, 0, none⟩) n n)) _
      have HW := hown
      
      refine hK.out _ _ (hH.trans (hbm.out.mono hH.size)) (fun hH => ?_)
      clear hK K
      clear hown hbm
      try simp only [Act.put, List.setIfInBounds_toArray, List.set_cons_zero, List.set_cons_succ]
      refine wpAnyH_ready (rs := [5]) (by kernel_rfl) (by simp) (AllReadyH.cons rfl (fun K hK => ?_) (AllReadyH.nil))
      have HNE := Lib.hid (Nat.ne_of_lt (HW.out.lt _ rfl).2)
      refine step_make rfl (.tmp 9) (.tmp 9) 41 rfl w.heap.size 27 (.int .u64 0) 1 8 Try.underlying41 info_word (by omega) .i64 m rfl rfl hm0 hH.size ?_
      intro w2 hown hbm
      change K (Act.put _ (some 10) (.slice (some ⟨_, 0, none⟩) m m)) _
      have HR := hown
      replace HW := Lib.hid (own_below HW.out hbm.out)
      refine hK.out _ _ (hH.trans (hbm.out.mono hH.size)) (fun hH => ?_)
      clear hK K
      clear hown hbm
      try simp only [Act.put, List.setIfInBounds_toArray, List.set_cons_zero, List.set_cons_succ]
      refine wpAnyH_take (i := 6) (oi := ⟨some 11, _, _, _, _, _⟩) (v := ?v5) rfl (by kernel_rfl) (by kernel_rfl) (by kernel_rfl) (fun _ _ _ h => h) (Or.inl ⟨rfl, ?c5⟩) hH ?r5
      case c5 => (intro w' _; go_simp; (try with_reducible rfl))
      try simp only [Act.put, List.setIfInBounds_toArray, List.set_cons_zero, List.set_cons_succ]
      refine wpAnyH_ready (rs := [7]) (by kernel_rfl) (by simp) (AllReadyH.cons rfl (fun K hK => ?_) (AllReadyH.nil))
      have HB8 := Lib.hid hH
      go_simp
      refine hK.out _ _ (hH.trans ((below_box _ _).mono hH.size)) (fun hH => ?_)
      clear hK K
      try simp only [Act.put, List.setIfInBounds_toArray, List.set_cons_zero, List.set_cons_succ]
      refine wpAnyH_take (i := 8) (oi := ⟨some 4, _, _, _, _, _⟩) (v := ?v6) rfl (by kernel_rfl) (by kernel_rfl) (by kernel_rfl) (fun _ _ _ h => h) (Or.inl ⟨rfl, ?c6⟩) hH ?r6
      case c6 => (intro w' _; go_simp; (try with_reducible rfl))
      try simp only [Act.put, List.setIfInBounds_toArray, List.set_cons_zero, List.set_cons_succ]
      refine wpAnyH_done (by kernel_rfl) ?_ _
      have HB9 := Lib.hid hH
      clear hH
      go_wp2_with fail
      go_ret
      have HP := rnew_raw HB8.out HW.out HR.out HNE.out HN.out HM.out
      exact ⟨_, _, rfl, ⟨⟨_, _, _, HP⟩, newS_ok _ _⟩, HB9.out, fun j hj => And.left hj⟩
    · refine step_make rfl (.tmp 9) (.tmp 9) 41 rfl w.heap.size 27 (.int .u64 0) 1 8 Try.underlying41 info_word (by omega) .i64 m rfl rfl hm0 hH.size ?_
      intro w2 hown hbm
      change K (Act.put _ (some 10) (.slice (some ⟨_, 0, none⟩) m m)) _
      have HR := hown
      
      refine hK.out _ _ (hH.trans (hbm.out.mono hH.size)) (fun hH => ?_)
      clear hK K
      clear hown hbm
      try simp only [Act.put, List.setIfInBounds_toArray, List.set_cons_zero, List.set_cons_succ]
      refine wpAnyH_ready (rs := [2]) (by kernel_rfl) (by simp) (AllReadyH.cons rfl (fun K hK => ?_) (AllReadyH.nil))
      have HNE := Lib.hid (Nat.ne_of_gt (HR.out.lt _ rfl).2)
      refine step_make rfl (.tmp 6) (.tmp 6) 41 rfl w.heap.size 27 (.int .u64 0) 1 8 Try.underlying41 info_word (by omega) .i64 n rfl rfl hn0 hH.size ?_
      intro w2 hown hbm
      change K (Act.put _ (some 7) (.slice (some ⟨_, 0, none⟩) n n)) _
      have HW := hown
      replace HR := Lib.hid (own_below HR.out hbm.out)
      refine hK.out _ _ (hH.trans (hbm.out.mono hH.size)) (fun hH => ?_)
      clear hK K
      clear hown hbm
      try simp only [Act.put, List.setIfInBounds_toArray, List.set_cons_zero, List.set_cons_succ]
      refine wpAnyH_take (i := 6) (oi := ⟨some 11, _, _, _, _, _⟩) (v := ?v7) rfl (by kernel_rfl) (by kernel_rfl) (by kernel_rfl) (fun _ _ _ h => h) (Or.inl ⟨rfl, ?c7⟩) hH ?r7
      case c7 => (intro w' _; go_simp; (try with_reducible rfl))
      try simp only [Act.put, List.setIfInBounds_toArray, List.set_cons_zero, List.set_cons_succ]
      refine wpAnyH_ready (rs := [7]) (by kernel_rfl) (by simp) (AllReadyH.cons rfl (fun K hK => ?_) (AllReadyH.nil))
      have HB8 := Lib.hid hH
      go_simp
      refine hK.out _ _ (hH.trans ((below_box _ _).mono hH.size)) (fun hH => ?_)
      clear hK K
      try simp only [Act.put, List.setIfInBounds_toArray, List.set_cons_zero, List.set_cons_succ]
      refine wpAnyH_take (i := 8) (oi := ⟨some 4, _, _, _, _, _⟩) (v := ?v8) rfl (by kernel_rfl) (by kernel_rfl) (by kernel_rfl) (fun _ _ _ h => h) (Or.inl ⟨rfl, ?c8⟩) hH ?r8
      case c8 => (intro w' _; go_simp; (try with_reducible rfl))
      try simp only [Act.put, List.setIfInBounds_toArray, List.set_cons_zero, List.set_cons_succ]
      refine wpAnyH_done (by kernel_rfl) ?_ _
      have HB9 := Lib.hid hH
      clear hH
      go_wp2_with fail
      go_ret
      have HP := rnew_raw HB8.out HW.out HR.out HNE.out HN.out HM.out
      exact ⟨_, _, rfl, ⟨⟨_, _, _, HP⟩, newS_ok _ _⟩, HB9.out, fun j hj => And.left hj⟩
end Me
end Go.Proofs.Ytbikbccmnmbkfaa
