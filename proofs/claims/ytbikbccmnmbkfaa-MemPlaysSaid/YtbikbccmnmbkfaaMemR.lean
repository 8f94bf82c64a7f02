/- Layer 19: the walk of MemPlays. (Written by wip/tools/mkMemR.py.) -/
import Derived.Test.YtbikbccmnmbkfaaMemQ
import Derived.Deep.RegionHeld3
set_option linter.unusedVariables false
set_option linter.unusedSimpArgs false
set_option maxRecDepth 100000
namespace Go.Proofs.Ytbikbccmnmbkfaa
open Go.ChangeShapes Go.WideShapes Go.ChangeAt Go.RowKit Go.Mtl Go.Lib
namespace Me
open MemM
/-- The program's memory and the reference's; what was there before. -/
structure Tw (w : World) (O1 O2 : Nat → Prop) (B1 B2 : Nat) (s1 s2 : Ms) (W : World) : Prop where
  mem : MAt W O1 B1 s1
  ref : RAt W O2 B2 s2
  dis : ∀ j, O1 j → ¬ O2 j
  bel : Below w.heap.size w W
  n1 : ∀ j, O1 j → w.heap.size ≤ j
  n2 : ∀ j, O2 j → w.heap.size ≤ j
section
variable {w W w' : World} {O1 O2 : Nat → Prop} {B1 B2 : Nat} {s1 s2 s' : Ms} {v : Value} {e : Ending}
theorem Tw.next (H : Tw w O1 O2 B1 B2 s1 s2 W) (hb : Below W.heap.size W w') : Tw w O1 O2 B1 B2 s1 s2 w' := ⟨H.mem.next hb, H.ref.next hb, H.dis, H.bel.trans (hb.mono H.bel.size), H.n1, H.n2⟩
theorem Tw.does (H : Tw w O1 O2 B1 B2 s1 s2 W) (D : Does W O1 B1 v s' e w') : ∃ O1', e = .returned v ∧ Tw w O1' O2 B1 B2 s' s2 w' ∧ Only O1 W w' := by
  obtain ⟨O', he, hm, ho, hO⟩ := D
  refine ⟨O', he, ⟨hm, H.ref.far ho (fun j h2 h1 => H.dis j h1 h2), fun j hj h2 => (hO j hj).elim (fun h1 => H.dis j h1 h2) (fun h => ?_), H.bel.trans (ho.below H.n1 H.bel.size), fun j hj => (hO j hj).elim (H.n1 j) (fun h => Nat.le_trans H.bel.size h), H.n2⟩, ho⟩
  have := H.ref.lt j h2
  omega
theorem Tw.rdoes (H : Tw w O1 O2 B1 B2 s1 s2 W) (D : RDoes W O2 B2 v s' e w') : ∃ O2', e = .returned v ∧ Tw w O1 O2' B1 B2 s1 s' w' ∧ Only O2 W w' := by
  obtain ⟨O', he, hm, ho, hO⟩ := D
  refine ⟨O', he, ⟨H.mem.far ho H.dis, hm, fun j h1 hj => (hO j hj).elim (H.dis j h1) (fun h => ?_), H.bel.trans (ho.below H.n2 H.bel.size), H.n1, fun j hj => (hO j hj).elim (H.n2 j) (fun h => Nat.le_trans H.bel.size h)⟩, ho⟩
  have := H.mem.lt j h1
  omega
end
theorem load_lens (s : Ms) (t a : Int) {i : Nat} (h : s.ws.length ≤ 8192 + i ∧ s.ls.length ≤ i) : (loadS s t a).ws.length ≤ 8192 + (i + 1) ∧ (loadS s t a).ls.length ≤ i + 1 := by
  unfold loadS; split <;> (try simp only [say, List.length_append, List.length_cons, List.length_nil, List.length_set]) <;> omega
theorem swap_lens (s : Ms) (t a o n : Int) {i : Nat} (h : s.ws.length ≤ 8192 + i ∧ s.ls.length ≤ i) : (swapS s t a o n).ws.length ≤ 8192 + (i + 1) ∧ (swapS s t a o n).ls.length ≤ i + 1 := by
  unfold swapS; split <;> (try split) <;> (try simp only [say, List.length_append, List.length_cons, List.length_nil, List.length_set]) <;> omega
theorem lock_lens (s : Ms) (t a : Int) {i : Nat} (h : s.ws.length ≤ 8192 + i ∧ s.ls.length ≤ i) : (lockS s t a).ws.length ≤ 8192 + (i + 1) ∧ (lockS s t a).ls.length ≤ i + 1 := by
  unfold lockS; split <;> (try simp only [say, List.length_append, List.length_cons, List.length_nil, List.length_set]) <;> omega
theorem unlock_lens (s : Ms) (t a : Int) {i : Nat} (h : s.ws.length ≤ 8192 + i ∧ s.ls.length ≤ i) : (unlockS s t a).ws.length ≤ 8192 + (i + 1) ∧ (unlockS s t a).ls.length ≤ i + 1 := by
  unfold unlockS; split <;> (try simp only [say, List.length_append, List.length_cons, List.length_nil, List.length_set]) <;> omega
theorem touch_lens (s : Ms) (t k a : Int) {i : Nat} (h : s.ws.length ≤ 8192 + i ∧ s.ls.length ≤ i) : (touchS s t k a).ws.length ≤ 8192 + (i + 1) ∧ (touchS s t k a).ls.length ≤ i + 1 := by
  unfold touchS; split <;> (try simp only [say, List.length_append, List.length_cons, List.length_nil, List.length_set]) <;> omega
set_option maxHeartbeats 40000000 in
theorem memPlays_walk (p q : Int) (A : Option Addr) (len cap : Nat) (rs : List (List Int)) (W : World) (hp : -9223372036854775808 ≤ p ∧ p ≤ 9223372036854775807) (hq : -9223372036854775808 ≤ q ∧ q ≤ 9223372036854775807) (hd : rs.length = len ∧ Sts W W.heap.size dk (.slice A len cap) rs ∧ ∀ r ∈ rs, Fits dk r) :
    Calls Try.prog 3 #[.int .i64 p, .int .i64 q, .slice A len cap] W fun e w' => e = .returned (.bool true) ∧ Below W.heap.size W w' := by
  obtain ⟨hl, hst, hft⟩ := hd
  obtain ⟨A', c', ee, hcl, hcc⟩ := hst.len
  injection ee with ea el ec
  subst ea ec
  rw [hl] at hcl
  have HST := Lib.hid hst
  have HFT := Lib.hid hft
  have HL := Lib.hid hl
  clear hst hft hl el hp hq
  go_enter Try.func3, Try.ntmps3
  go_wp2_with fail
  go_at_call 7
  refine (new_any p q _).mono ?_
  rintro e w0 ⟨O1, B1, rfl, hm1, hb1, hO1⟩
  have HM1 := Lib.hid hm1
  have HB1 := Lib.hid hb1
  have HO1 := Lib.hid hO1
  clear hm1 hb1 hO1
  go_wp2_with fail
  go_at_call 8
  refine (refNew_any p q _).mono ?_
  rintro e w1 ⟨O2, B2, rfl, hm2, hb2, hO2⟩
  have H0 : Hid (Tw W O1 O2 B1 B2 (newS p q) (newS p q) w1) :=
    ⟨HM1.out.next hb2, hm2, fun j h1 h2 => by have := HM1.out.lt j h1; have := hO2 j h2; omega, HB1.out.trans (hb2.mono HB1.out.size), HO1.out, fun j hj => Nat.le_trans HB1.out.size (hO2 j hj)⟩
  have HN0 : Hid ((newS p q).ws.length ≤ 8192 + 0 ∧ (newS p q).ls.length ≤ 0) := ⟨by have := clamp_le p; simp [newS]; omega, Nat.le_refl _⟩
  clear hm2 hb2 hO2 HM1 HB1 HO1
  go_wp2_with fail
  go_loopw [9] (fun vi wr => ∃ (i : Nat) (O1 O2 : Nat → Prop) (s : Ms), vi = .int .i64 (i : Int) ∧ i ≤ len ∧ i ≤ 80 ∧ Hid (Tw W O1 O2 B1 B2 s s wr) ∧ Hid (s.ws.length ≤ 8192 + i ∧ s.ls.length ≤ i)) (fun vi _ => 80 - (RowKit.intOf vi).toNat)
  case atStart => exact ⟨0, O1, O2, _, rfl, by omega, by omega, H0, HN0⟩
  case round =>
    clear H0 HN0 O1 O2
    obtain ⟨i, O1, O2, s, rfl, hi1, hi2, HT, HN⟩ := hrel
    by_cases h1 : i < len
    · by_cases h2 : i < 80
      · obtain ⟨k, t, a, o, n, b, off, c, ⟨k0, t0, a0, o0, n0⟩, ev, -, -, hb, x0, x1, x2, x3, x4⟩ := do_at (HST.out.below HT.out.bel) HFT.out HL.out h1
        injection ev with ev _ ec
        subst ev ec
        have HT0 := Lib.hid t0
        have HN0 := Lib.hid n0
        obtain ⟨k0, k1⟩ := k0
        clear hb t0 a0 o0 n0
        obtain ⟨g, hg⟩ : ∃ g, wr.heap.size = g := ⟨_, rfl⟩
        obtain ⟨U, hU⟩ : ∃ U, wr.alloc (.cells #[.int .u8 k, .int .i64 t, .int .i64 a, .int .u64 o, .int .u64 n] 29) = U := ⟨_, rfl⟩
        have HTU : Hid (Tw W O1 O2 B1 B2 s s U) := by have := HT.out.next (below_box wr (.cells #[.int .u8 k, .int .i64 t, .int .i64 a, .int .u64 o, .int .u64 n] 29)); rw [hU] at this; exact this
        have HXU : Hid (Blk U g #[.int .u8 k, .int .i64 t, .int .i64 a, .int .u64 o, .int .u64 n] 29) := by have := Blk.box wr #[.int .u8 k, .int .i64 t, .int .i64 a, .int .u64 o, .int .u64 n] 29; rw [hU, hg] at this; exact this
        have HTD := Lib.hid (HTU.out.next (Below.refl _ U).drew)
        have HXD := Lib.hid HXU.out.drew
        have HG1 : Hid (∀ j, O1 j → j ≠ g) := fun j hj e => by have := HT.out.mem.lt j hj; omega
        have HG2 : Hid (∀ j, O2 j → j ≠ g) := fun j hj e => by have := HT.out.ref.lt j hj; omega
        have HGU : Hid (wr.heap.size = g ∧ wr.alloc (.cells #[.int .u8 k, .int .i64 t, .int .i64 a, .int .u64 o, .int .u64 n] 29) = U) := ⟨hg, hU⟩
        clear hg hU HT
        have hk8 : k % 8 = 0 ∨ k % 8 = 1 ∨ k % 8 = 2 ∨ k % 8 = 3 ∨ k % 8 = 4 ∨ k % 8 = 5 ∨ k % 8 = 6 ∨ k % 8 = 7 := by omega
        rcases hk8 with hk | hk | hk | hk | hk | hk | hk | hk
        · as_aux_lemma =>
            go_wp2_with fail
            rw [HGU.out.2, HGU.out.1]
            refine wp_region_held_drew (S := fun w' => Blk w' g #[.int .u8 k, .int .i64 t, .int .i64 a, .int .u64 o, .int .u64 n] 29) (by kernel_rfl) (HXD.out) (fun hH => ?_)
            refine wpAnyH_take (i := 0) (oi := ⟨some 38, _, _, _, _, _⟩) (v := ?v601) rfl (by kernel_rfl) (by kernel_rfl) (by kernel_rfl) (fun _ _ _ h => h) (Or.inl ⟨rfl, ?c601⟩) hH ?r601
            case c601 => (intro w' _; go_simp; (try with_reducible rfl))
            try simp only [Act.put, List.setIfInBounds_toArray, List.set_cons_zero, List.set_cons_succ]
            refine wpAnyH_take (i := 1) (oi := ⟨some 39, _, _, _, _, _⟩) (v := ?v602) rfl (by kernel_rfl) (by kernel_rfl) (by kernel_rfl) (fun _ _ _ h => h) (Or.inl ⟨rfl, ?c602⟩) hH ?r602
            case c602 => (intro w' _; go_simp; (try with_reducible rfl))
            try simp only [Act.put, List.setIfInBounds_toArray, List.set_cons_zero, List.set_cons_succ]
            refine wpAnyH_take (i := 2) (oi := ⟨some 40, _, _, _, _, _⟩) (v := ?v603) rfl (by kernel_rfl) (by kernel_rfl) (by kernel_rfl) (fun _ _ _ h => h) (Or.inl ⟨rfl, ?c603⟩) hH ?r603
            case c603 => (intro w' hS; have z0 := hS.cell 0 _ rfl; have z1 := hS.cell 1 _ rfl; have z2 := hS.cell 2 _ rfl; have z3 := hS.cell 3 _ rfl; have z4 := hS.cell 4 _ rfl; go_simp; (try with_reducible rfl))
            try simp only [Act.put, List.setIfInBounds_toArray, List.set_cons_zero, List.set_cons_succ]
            refine wpAnyH_take (i := 4) (oi := ⟨some 42, _, _, _, _, _⟩) (v := ?v604) rfl (by kernel_rfl) (by kernel_rfl) (by kernel_rfl) (fun _ _ _ h => h) (Or.inl ⟨rfl, ?c604⟩) hH ?r604
            case c604 => (intro w' _; go_simp; (try with_reducible rfl))
            try simp only [Act.put, List.setIfInBounds_toArray, List.set_cons_zero, List.set_cons_succ]
            refine wpAnyH_take (i := 5) (oi := ⟨some 43, _, _, _, _, _⟩) (v := ?v605) rfl (by kernel_rfl) (by kernel_rfl) (by kernel_rfl) (fun _ _ _ h => h) (Or.inl ⟨rfl, ?c605⟩) hH ?r605
            case c605 => (intro w' _; go_simp; (try with_reducible rfl))
            try simp only [Act.put, List.setIfInBounds_toArray, List.set_cons_zero, List.set_cons_succ]
            refine wpAnyH_take (i := 6) (oi := ⟨some 44, _, _, _, _, _⟩) (v := ?v606) rfl (by kernel_rfl) (by kernel_rfl) (by kernel_rfl) (fun _ _ _ h => h) (Or.inl ⟨rfl, ?c606⟩) hH ?r606
            case c606 => (intro w' hS; have z0 := hS.cell 0 _ rfl; have z1 := hS.cell 1 _ rfl; have z2 := hS.cell 2 _ rfl; have z3 := hS.cell 3 _ rfl; have z4 := hS.cell 4 _ rfl; go_simp; (try with_reducible rfl))
            try simp only [Act.put, List.setIfInBounds_toArray, List.set_cons_zero, List.set_cons_succ]
            refine wpAnyH_ready (rs := [3]) (by kernel_rfl) (by simp) (AllReadyH.cons rfl (fun K hK => ?_) (AllReadyH.nil))
            go_simp
            go_at_call 9
            refine (more_any HTD.out.mem n HN0.out (by have := HN.out.1; omega)).mono ?_
            intro e w5 hd
            obtain ⟨O1p, rfl, hh, ho⟩ := HTD.out.does hd
            have HT5 := Lib.hid hh
            refine hK.out _ _ (Blk.only hH ho (fun e => HG1.out _ e rfl)) (fun hH => ?_)
            clear hK K
            clear hd hh ho
            try simp only [Act.put, List.setIfInBounds_toArray, List.set_cons_zero, List.set_cons_succ]
            refine wpAnyH_ready (rs := [7]) (by kernel_rfl) (by simp) (AllReadyH.cons rfl (fun K hK => ?_) (AllReadyH.nil))
            go_simp
            go_at_call 10
            refine (refMore_any HT5.out.ref n HN0.out (by have := HN.out.1; omega)).mono ?_
            intro e w6 hd
            obtain ⟨O2p, rfl, hh, ho⟩ := HT5.out.rdoes hd
            have HT6 := Lib.hid hh
            refine hK.out _ _ (Blk.only hH ho (fun e => HG2.out _ e rfl)) (fun hH => ?_)
            clear hK K
            clear hd hh ho HT5
            try simp only [Act.put, List.setIfInBounds_toArray, List.set_cons_zero, List.set_cons_succ]
            refine wpAnyH_take (i := 8) (oi := ⟨some 46, _, _, _, _, _⟩) (v := ?v607) rfl (by kernel_rfl) (by kernel_rfl) (by kernel_rfl) (fun _ _ _ h => h) (Or.inl ⟨rfl, ?c607⟩) hH ?r607
            case c607 => (intro w' _; go_simp; (try with_reducible rfl))
            try simp only [Act.put, List.setIfInBounds_toArray, List.set_cons_zero, List.set_cons_succ]
            refine wpAnyH_take (i := 9) (oi := ⟨some 11, _, _, _, _, _⟩) (v := ?v608) rfl (by kernel_rfl) (by kernel_rfl) (by kernel_rfl) (fun _ _ _ h => h) (Or.inl ⟨rfl, ?c608⟩) hH ?r608
            case c608 => (intro w' _; go_simp; (try with_reducible rfl))
            try simp only [Act.put, List.setIfInBounds_toArray, List.set_cons_zero, List.set_cons_succ]
            refine wpAnyH_done (by kernel_rfl) ?_ _
            have HX6 := Lib.hid hH
            clear hH
            have HN7 : Hid ((moreS s n).ws.length ≤ 8192 + (i + 1) ∧ (moreS s n).ls.length ≤ i + 1) := ⟨by have := HN.out.1; rw [show (moreS s n).ws.length = s.ws.length + 1 by simp [moreS]]; omega, by have := HN.out.2; show s.ls.length ≤ _; omega⟩
            go_wp2_with fail
            have HT7 := Lib.hid (HT6.out.next (Below.refl _ _).drew)
            have HX7 := Lib.hid (HX6.out.drew)
            obtain ⟨⟨vw, vh, vl, hmm⟩, -⟩ := HT7.out.ref
            obtain ⟨Aw, cw, rfl, -, -⟩ := hmm.len0
            have b0 := hmm.blk.cell 0 _ rfl
            have HHO := Lib.hid (holder_any HT7.out.mem a)
            have HRO := Lib.hid (refHolder_any HT7.out.ref a)
            have HWO := Lib.hid (words_any HT7.out.mem)
            clear hmm
            generalize holdV (moreS s n) a = yv at HHO HRO
            obtain ⟨Nw, hNw⟩ : ∃ N, (moreS s n).ws.length = N := ⟨_, rfl⟩
            rw [hNw] at HWO b0
            clear hNw HT6 HX6
            refine wp_region_held_drew (S := fun w' => Blk w' g #[.int .u8 k, .int .i64 t, .int .i64 a, .int .u64 o, .int .u64 n] 29 ∧ w'.cell? ⟨B2, 0, none⟩ = some (.slice Aw Nw cw)) (by kernel_rfl) (⟨HX7.out, b0⟩) (fun hH => ?_)
            refine wpAnyH_take (i := 0) (oi := ⟨some 144, _, _, _, _, _⟩) (v := ?v301) rfl (by kernel_rfl) (by kernel_rfl) (by kernel_rfl) (fun _ _ _ h => h) (Or.inl ⟨rfl, ?c301⟩) hH ?r301
            case c301 => (intro w' _; go_simp; (try with_reducible rfl))
            try simp only [Act.put, List.setIfInBounds_toArray, List.set_cons_zero, List.set_cons_succ]
            refine wpAnyH_take (i := 1) (oi := ⟨some 145, _, _, _, _, _⟩) (v := ?v302) rfl (by kernel_rfl) (by kernel_rfl) (by kernel_rfl) (fun _ _ _ h => h) (Or.inl ⟨rfl, ?c302⟩) hH ?r302
            case c302 => (intro w' _; go_simp; (try with_reducible rfl))
            try simp only [Act.put, List.setIfInBounds_toArray, List.set_cons_zero, List.set_cons_succ]
            refine wpAnyH_take (i := 2) (oi := ⟨some 146, _, _, _, _, _⟩) (v := ?v303) rfl (by kernel_rfl) (by kernel_rfl) (by kernel_rfl) (fun _ _ _ h => h) (Or.inl ⟨rfl, ?c303⟩) hH ?r303
            case c303 => (intro w' _; go_simp; (try with_reducible rfl))
            try simp only [Act.put, List.setIfInBounds_toArray, List.set_cons_zero, List.set_cons_succ]
            refine wpAnyH_take (i := 3) (oi := ⟨some 147, _, _, _, _, _⟩) (v := ?v304) rfl (by kernel_rfl) (by kernel_rfl) (by kernel_rfl) (fun _ _ _ h => h) (Or.inl ⟨rfl, ?c304⟩) hH ?r304
            case c304 => (intro w' _; go_simp; (try with_reducible rfl))
            try simp only [Act.put, List.setIfInBounds_toArray, List.set_cons_zero, List.set_cons_succ]
            refine wpAnyH_take (i := 4) (oi := ⟨some 148, _, _, _, _, _⟩) (v := ?v305) rfl (by kernel_rfl) (by kernel_rfl) (by kernel_rfl) (fun _ _ _ h => h) (Or.inl ⟨rfl, ?c305⟩) hH ?r305
            case c305 => (intro w' _; go_simp; (try with_reducible rfl))
            try simp only [Act.put, List.setIfInBounds_toArray, List.set_cons_zero, List.set_cons_succ]
            refine wpAnyH_take (i := 5) (oi := ⟨some 149, _, _, _, _, _⟩) (v := ?v306) rfl (by kernel_rfl) (by kernel_rfl) (by kernel_rfl) (fun _ _ _ h => h) (Or.inl ⟨rfl, ?c306⟩) hH ?r306
            case c306 => (intro w' hS; have z2 := hS.1.cell 2 _ rfl; have zb := hS.2; go_simp; (try with_reducible rfl))
            try simp only [Act.put, List.setIfInBounds_toArray, List.set_cons_zero, List.set_cons_succ]
            refine wpAnyH_take (i := 7) (oi := ⟨some 151, _, _, _, _, _⟩) (v := ?v307) rfl (by kernel_rfl) (by kernel_rfl) (by kernel_rfl) (fun _ _ _ h => h) (Or.inl ⟨rfl, ?c307⟩) hH ?r307
            case c307 => (intro w' _; go_simp; (try with_reducible rfl))
            try simp only [Act.put, List.setIfInBounds_toArray, List.set_cons_zero, List.set_cons_succ]
            refine wpAnyH_take (i := 8) (oi := ⟨some 152, _, _, _, _, _⟩) (v := ?v308) rfl (by kernel_rfl) (by kernel_rfl) (by kernel_rfl) (fun _ _ _ h => h) (Or.inl ⟨rfl, ?c308⟩) hH ?r308
            case c308 => (intro w' _; go_simp; (try with_reducible rfl))
            try simp only [Act.put, List.setIfInBounds_toArray, List.set_cons_zero, List.set_cons_succ]
            refine wpAnyH_take (i := 9) (oi := ⟨some 153, _, _, _, _, _⟩) (v := ?v309) rfl (by kernel_rfl) (by kernel_rfl) (by kernel_rfl) (fun _ _ _ h => h) (Or.inl ⟨rfl, ?c309⟩) hH ?r309
            case c309 => (intro w' hS; have z2 := hS.1.cell 2 _ rfl; have zb := hS.2; go_simp; (try with_reducible rfl))
            try simp only [Act.put, List.setIfInBounds_toArray, List.set_cons_zero, List.set_cons_succ]
            refine wpAnyH_ready (rs := [6]) (by kernel_rfl) (by simp) (AllReadyH.cons rfl (fun K hK => ?_) (AllReadyH.nil))
            go_simp
            go_at_call 22
            refine HHO.out.mono ?_
            rintro e w7 ⟨rfl, rfl⟩
            refine hK.out _ _ (hH) (fun hH => ?_)
            clear hK K
            try simp only [Act.put, List.setIfInBounds_toArray, List.set_cons_zero, List.set_cons_succ]
            refine wpAnyH_ready (rs := [10]) (by kernel_rfl) (by simp) (AllReadyH.cons rfl (fun K hK => ?_) (AllReadyH.nil))
            go_simp
            go_at_call 23
            refine HRO.out.mono ?_
            rintro e w7 ⟨rfl, rfl⟩
            refine hK.out _ _ (hH) (fun hH => ?_)
            clear hK K
            try simp only [Act.put, List.setIfInBounds_toArray, List.set_cons_zero, List.set_cons_succ]
            refine wpAnyH_take (i := 11) (oi := ⟨some 155, _, _, _, _, _⟩) (v := ?v310) rfl (by kernel_rfl) (by kernel_rfl) (by kernel_rfl) (fun _ _ _ h => h) (Or.inl ⟨rfl, ?c310⟩) hH ?r310
            case c310 => (intro w' _; go_simp; (try simp only [bne_self_eq_false]); (try with_reducible rfl))
            try simp only [Act.put, List.setIfInBounds_toArray, List.set_cons_zero, List.set_cons_succ]
            refine wpAnyH_take (i := 12) (oi := ⟨some 156, _, _, _, _, _⟩) (v := ?v311) rfl (by kernel_rfl) (by kernel_rfl) (by kernel_rfl) (fun _ _ _ h => h) (Or.inl ⟨rfl, ?c311⟩) hH ?r311
            case c311 => (intro w' _; go_simp; (try with_reducible rfl))
            try simp only [Act.put, List.setIfInBounds_toArray, List.set_cons_zero, List.set_cons_succ]
            refine wpAnyH_take (i := 13) (oi := ⟨some 157, _, _, _, _, _⟩) (v := ?v312) rfl (by kernel_rfl) (by kernel_rfl) (by kernel_rfl) (fun _ _ _ h => h) (Or.inl ⟨rfl, ?c312⟩) hH ?r312
            case c312 => (intro w' _; go_simp; (try with_reducible rfl))
            try simp only [Act.put, List.setIfInBounds_toArray, List.set_cons_zero, List.set_cons_succ]
            refine wpAnyH_take (i := 14) (oi := ⟨some 158, _, _, _, _, _⟩) (v := ?v313) rfl (by kernel_rfl) (by kernel_rfl) (by kernel_rfl) (fun _ _ _ h => h) (Or.inl ⟨rfl, ?c313⟩) hH ?r313
            case c313 => (intro w' _; go_simp; (try with_reducible rfl))
            try simp only [Act.put, List.setIfInBounds_toArray, List.set_cons_zero, List.set_cons_succ]
            refine wpAnyH_take (i := 16) (oi := ⟨some 160, _, _, _, _, _⟩) (v := ?v314) rfl (by kernel_rfl) (by kernel_rfl) (by kernel_rfl) (fun _ _ _ h => h) (Or.inl ⟨rfl, ?c314⟩) hH ?r314
            case c314 => (intro w' _; go_simp; (try with_reducible rfl))
            try simp only [Act.put, List.setIfInBounds_toArray, List.set_cons_zero, List.set_cons_succ]
            refine wpAnyH_take (i := 17) (oi := ⟨some 161, _, _, _, _, _⟩) (v := ?v315) rfl (by kernel_rfl) (by kernel_rfl) (by kernel_rfl) (fun _ _ _ h => h) (Or.inl ⟨rfl, ?c315⟩) hH ?r315
            case c315 => (intro w' _; go_simp; (try with_reducible rfl))
            try simp only [Act.put, List.setIfInBounds_toArray, List.set_cons_zero, List.set_cons_succ]
            refine wpAnyH_take (i := 18) (oi := ⟨some 162, _, _, _, _, _⟩) (v := ?v316) rfl (by kernel_rfl) (by kernel_rfl) (by kernel_rfl) (fun _ _ _ h => h) (Or.inl ⟨rfl, ?c316⟩) hH ?r316
            case c316 => (intro w' _; go_simp; (try with_reducible rfl))
            try simp only [Act.put, List.setIfInBounds_toArray, List.set_cons_zero, List.set_cons_succ]
            refine wpAnyH_take (i := 19) (oi := ⟨some 163, _, _, _, _, _⟩) (v := ?v317) rfl (by kernel_rfl) (by kernel_rfl) (by kernel_rfl) (fun _ _ _ h => h) (Or.inl ⟨rfl, ?c317⟩) hH ?r317
            case c317 => (intro w' hS; have z2 := hS.1.cell 2 _ rfl; have zb := hS.2; go_simp; (try with_reducible rfl))
            try simp only [Act.put, List.setIfInBounds_toArray, List.set_cons_zero, List.set_cons_succ]
            refine wpAnyH_take (i := 20) (oi := ⟨some 164, _, _, _, _, _⟩) (v := ?v318) rfl (by kernel_rfl) (by kernel_rfl) (by kernel_rfl) (fun _ _ _ h => h) (Or.inl ⟨rfl, ?c318⟩) hH ?r318
            case c318 => (intro w' _; go_simp; (try with_reducible rfl))
            try simp only [Act.put, List.setIfInBounds_toArray, List.set_cons_zero, List.set_cons_succ]
            refine wpAnyH_ready (rs := [15]) (by kernel_rfl) (by simp) (AllReadyH.cons rfl (fun K hK => ?_) (AllReadyH.nil))
            go_simp
            go_at_call 24
            refine HWO.out.mono ?_
            rintro e w7 ⟨rfl, rfl⟩
            refine hK.out _ _ (hH) (fun hH => ?_)
            clear hK K
            try simp only [Act.put, List.setIfInBounds_toArray, List.set_cons_zero, List.set_cons_succ]
            refine wpAnyH_take (i := 21) (oi := ⟨some 165, _, _, _, _, _⟩) (v := ?v319) rfl (by kernel_rfl) (by kernel_rfl) (by kernel_rfl) (fun _ _ _ h => h) (Or.inl ⟨rfl, ?c319⟩) hH ?r319
            case c319 => (intro w' _; go_simp; (try simp only [bne_self_eq_false]); (try with_reducible rfl))
            try simp only [Act.put, List.setIfInBounds_toArray, List.set_cons_zero, List.set_cons_succ]
            refine wpAnyH_take (i := 22) (oi := ⟨some 166, _, _, _, _, _⟩) (v := ?v320) rfl (by kernel_rfl) (by kernel_rfl) (by kernel_rfl) (fun _ _ _ h => h) (Or.inl ⟨rfl, ?c320⟩) hH ?r320
            case c320 => (intro w' _; go_simp; (try with_reducible rfl))
            try simp only [Act.put, List.setIfInBounds_toArray, List.set_cons_zero, List.set_cons_succ]
            refine wpAnyH_done (by kernel_rfl) ?_ _
            clear hH
            go_wp2_with fail
            go_roundw
            case rel => exact ⟨i + 1, O1p, O2p, moreS s n, by go_num, by omega, by omega, HT7, HN7⟩
            case measure => simp [RowKit.intOf]; omega
        · as_aux_lemma =>
            go_wp2_with fail
            rw [HGU.out.2, HGU.out.1]
            refine wp_region_held_drew (S := fun w' => Blk w' g #[.int .u8 k, .int .i64 t, .int .i64 a, .int .u64 o, .int .u64 n] 29) (by kernel_rfl) (HXD.out) (fun hH => ?_)
            refine wpAnyH_take (i := 0) (oi := ⟨some 49, _, _, _, _, _⟩) (v := ?v1201) rfl (by kernel_rfl) (by kernel_rfl) (by kernel_rfl) (fun _ _ _ h => h) (Or.inl ⟨rfl, ?c1201⟩) hH ?r1201
            case c1201 => (intro w' _; go_simp; (try with_reducible rfl))
            try simp only [Act.put, List.setIfInBounds_toArray, List.set_cons_zero, List.set_cons_succ]
            refine wpAnyH_take (i := 1) (oi := ⟨some 50, _, _, _, _, _⟩) (v := ?v1202) rfl (by kernel_rfl) (by kernel_rfl) (by kernel_rfl) (fun _ _ _ h => h) (Or.inl ⟨rfl, ?c1202⟩) hH ?r1202
            case c1202 => (intro w' _; go_simp; (try with_reducible rfl))
            try simp only [Act.put, List.setIfInBounds_toArray, List.set_cons_zero, List.set_cons_succ]
            refine wpAnyH_take (i := 2) (oi := ⟨some 51, _, _, _, _, _⟩) (v := ?v1203) rfl (by kernel_rfl) (by kernel_rfl) (by kernel_rfl) (fun _ _ _ h => h) (Or.inl ⟨rfl, ?c1203⟩) hH ?r1203
            case c1203 => (intro w' hS; have z0 := hS.cell 0 _ rfl; have z1 := hS.cell 1 _ rfl; have z2 := hS.cell 2 _ rfl; have z3 := hS.cell 3 _ rfl; have z4 := hS.cell 4 _ rfl; go_simp; (try with_reducible rfl))
            try simp only [Act.put, List.setIfInBounds_toArray, List.set_cons_zero, List.set_cons_succ]
            refine wpAnyH_take (i := 3) (oi := ⟨some 52, _, _, _, _, _⟩) (v := ?v1204) rfl (by kernel_rfl) (by kernel_rfl) (by kernel_rfl) (fun _ _ _ h => h) (Or.inl ⟨rfl, ?c1204⟩) hH ?r1204
            case c1204 => (intro w' _; go_simp; (try with_reducible rfl))
            try simp only [Act.put, List.setIfInBounds_toArray, List.set_cons_zero, List.set_cons_succ]
            refine wpAnyH_take (i := 4) (oi := ⟨some 53, _, _, _, _, _⟩) (v := ?v1205) rfl (by kernel_rfl) (by kernel_rfl) (by kernel_rfl) (fun _ _ _ h => h) (Or.inl ⟨rfl, ?c1205⟩) hH ?r1205
            case c1205 => (intro w' hS; have z0 := hS.cell 0 _ rfl; have z1 := hS.cell 1 _ rfl; have z2 := hS.cell 2 _ rfl; have z3 := hS.cell 3 _ rfl; have z4 := hS.cell 4 _ rfl; go_simp; (try with_reducible rfl))
            try simp only [Act.put, List.setIfInBounds_toArray, List.set_cons_zero, List.set_cons_succ]
            refine wpAnyH_take (i := 6) (oi := ⟨some 55, _, _, _, _, _⟩) (v := ?v1206) rfl (by kernel_rfl) (by kernel_rfl) (by kernel_rfl) (fun _ _ _ h => h) (Or.inl ⟨rfl, ?c1206⟩) hH ?r1206
            case c1206 => (intro w' _; go_simp; (try with_reducible rfl))
            try simp only [Act.put, List.setIfInBounds_toArray, List.set_cons_zero, List.set_cons_succ]
            refine wpAnyH_take (i := 7) (oi := ⟨some 56, _, _, _, _, _⟩) (v := ?v1207) rfl (by kernel_rfl) (by kernel_rfl) (by kernel_rfl) (fun _ _ _ h => h) (Or.inl ⟨rfl, ?c1207⟩) hH ?r1207
            case c1207 => (intro w' _; go_simp; (try with_reducible rfl))
            try simp only [Act.put, List.setIfInBounds_toArray, List.set_cons_zero, List.set_cons_succ]
            refine wpAnyH_take (i := 8) (oi := ⟨some 57, _, _, _, _, _⟩) (v := ?v1208) rfl (by kernel_rfl) (by kernel_rfl) (by kernel_rfl) (fun _ _ _ h => h) (Or.inl ⟨rfl, ?c1208⟩) hH ?r1208
            case c1208 => (intro w' hS; have z0 := hS.cell 0 _ rfl; have z1 := hS.cell 1 _ rfl; have z2 := hS.cell 2 _ rfl; have z3 := hS.cell 3 _ rfl; have z4 := hS.cell 4 _ rfl; go_simp; (try with_reducible rfl))
            try simp only [Act.put, List.setIfInBounds_toArray, List.set_cons_zero, List.set_cons_succ]
            refine wpAnyH_take (i := 9) (oi := ⟨some 58, _, _, _, _, _⟩) (v := ?v1209) rfl (by kernel_rfl) (by kernel_rfl) (by kernel_rfl) (fun _ _ _ h => h) (Or.inl ⟨rfl, ?c1209⟩) hH ?r1209
            case c1209 => (intro w' _; go_simp; (try with_reducible rfl))
            try simp only [Act.put, List.setIfInBounds_toArray, List.set_cons_zero, List.set_cons_succ]
            refine wpAnyH_take (i := 10) (oi := ⟨some 59, _, _, _, _, _⟩) (v := ?v1210) rfl (by kernel_rfl) (by kernel_rfl) (by kernel_rfl) (fun _ _ _ h => h) (Or.inl ⟨rfl, ?c1210⟩) hH ?r1210
            case c1210 => (intro w' hS; have z0 := hS.cell 0 _ rfl; have z1 := hS.cell 1 _ rfl; have z2 := hS.cell 2 _ rfl; have z3 := hS.cell 3 _ rfl; have z4 := hS.cell 4 _ rfl; go_simp; (try with_reducible rfl))
            try simp only [Act.put, List.setIfInBounds_toArray, List.set_cons_zero, List.set_cons_succ]
            refine wpAnyH_ready (rs := [5]) (by kernel_rfl) (by simp) (AllReadyH.cons rfl (fun K hK => ?_) (AllReadyH.nil))
            go_simp
            go_at_call 11
            refine (load_any HTD.out.mem t a (by have := HN.out.2; omega)).mono ?_
            intro e w5 hd
            obtain ⟨O1p, rfl, hh, ho⟩ := HTD.out.does hd
            have HT5 := Lib.hid hh
            refine hK.out _ _ (Blk.only hH ho (fun e => HG1.out _ e rfl)) (fun hH => ?_)
            clear hK K
            clear hd hh ho
            try simp only [Act.put, List.setIfInBounds_toArray, List.set_cons_zero, List.set_cons_succ]
            refine wpAnyH_ready (rs := [11]) (by kernel_rfl) (by simp) (AllReadyH.cons rfl (fun K hK => ?_) (AllReadyH.nil))
            go_simp
            go_at_call 12
            refine (refLoad_any HT5.out.ref t a (by have := HN.out.2; omega)).mono ?_
            intro e w6 hd
            obtain ⟨O2p, rfl, hh, ho⟩ := HT5.out.rdoes hd
            have HT6 := Lib.hid hh
            refine hK.out _ _ (Blk.only hH ho (fun e => HG2.out _ e rfl)) (fun hH => ?_)
            clear hK K
            clear hd hh ho HT5
            try simp only [Act.put, List.setIfInBounds_toArray, List.set_cons_zero, List.set_cons_succ]
            refine wpAnyH_take (i := 12) (oi := ⟨some 61, _, _, _, _, _⟩) (v := ?v1211) rfl (by kernel_rfl) (by kernel_rfl) (by kernel_rfl) (fun _ _ _ h => h) (Or.inl ⟨rfl, ?c1211⟩) hH ?r1211
            case c1211 => (intro w' _; go_simp; (try with_reducible rfl))
            try simp only [Act.put, List.setIfInBounds_toArray, List.set_cons_zero, List.set_cons_succ]
            refine wpAnyH_take (i := 13) (oi := ⟨some 11, _, _, _, _, _⟩) (v := ?v1212) rfl (by kernel_rfl) (by kernel_rfl) (by kernel_rfl) (fun _ _ _ h => h) (Or.inl ⟨rfl, ?c1212⟩) hH ?r1212
            case c1212 => (intro w' _; go_simp; (try with_reducible rfl))
            try simp only [Act.put, List.setIfInBounds_toArray, List.set_cons_zero, List.set_cons_succ]
            refine wpAnyH_done (by kernel_rfl) ?_ _
            have HX6 := Lib.hid hH
            clear hH
            have HN7 : Hid ((loadS s t a).ws.length ≤ 8192 + (i + 1) ∧ (loadS s t a).ls.length ≤ i + 1) := load_lens s t a HN.out
            go_wp2_with fail
            have HT7 := Lib.hid (HT6.out.next (Below.refl _ _).drew)
            have HX7 := Lib.hid (HX6.out.drew)
            obtain ⟨⟨vw, vh, vl, hmm⟩, -⟩ := HT7.out.ref
            obtain ⟨Aw, cw, rfl, -, -⟩ := hmm.len0
            have b0 := hmm.blk.cell 0 _ rfl
            have HHO := Lib.hid (holder_any HT7.out.mem a)
            have HRO := Lib.hid (refHolder_any HT7.out.ref a)
            have HWO := Lib.hid (words_any HT7.out.mem)
            clear hmm
            generalize holdV (loadS s t a) a = yv at HHO HRO
            obtain ⟨Nw, hNw⟩ : ∃ N, (loadS s t a).ws.length = N := ⟨_, rfl⟩
            rw [hNw] at HWO b0
            clear hNw HT6 HX6
            refine wp_region_held_drew (S := fun w' => Blk w' g #[.int .u8 k, .int .i64 t, .int .i64 a, .int .u64 o, .int .u64 n] 29 ∧ w'.cell? ⟨B2, 0, none⟩ = some (.slice Aw Nw cw)) (by kernel_rfl) (⟨HX7.out, b0⟩) (fun hH => ?_)
            refine wpAnyH_take (i := 0) (oi := ⟨some 144, _, _, _, _, _⟩) (v := ?v901) rfl (by kernel_rfl) (by kernel_rfl) (by kernel_rfl) (fun _ _ _ h => h) (Or.inl ⟨rfl, ?c901⟩) hH ?r901
            case c901 => (intro w' _; go_simp; (try with_reducible rfl))
            try simp only [Act.put, List.setIfInBounds_toArray, List.set_cons_zero, List.set_cons_succ]
            refine wpAnyH_take (i := 1) (oi := ⟨some 145, _, _, _, _, _⟩) (v := ?v902) rfl (by kernel_rfl) (by kernel_rfl) (by kernel_rfl) (fun _ _ _ h => h) (Or.inl ⟨rfl, ?c902⟩) hH ?r902
            case c902 => (intro w' _; go_simp; (try with_reducible rfl))
            try simp only [Act.put, List.setIfInBounds_toArray, List.set_cons_zero, List.set_cons_succ]
            refine wpAnyH_take (i := 2) (oi := ⟨some 146, _, _, _, _, _⟩) (v := ?v903) rfl (by kernel_rfl) (by kernel_rfl) (by kernel_rfl) (fun _ _ _ h => h) (Or.inl ⟨rfl, ?c903⟩) hH ?r903
            case c903 => (intro w' _; go_simp; (try with_reducible rfl))
            try simp only [Act.put, List.setIfInBounds_toArray, List.set_cons_zero, List.set_cons_succ]
            refine wpAnyH_take (i := 3) (oi := ⟨some 147, _, _, _, _, _⟩) (v := ?v904) rfl (by kernel_rfl) (by kernel_rfl) (by kernel_rfl) (fun _ _ _ h => h) (Or.inl ⟨rfl, ?c904⟩) hH ?r904
            case c904 => (intro w' _; go_simp; (try with_reducible rfl))
            try simp only [Act.put, List.setIfInBounds_toArray, List.set_cons_zero, List.set_cons_succ]
            refine wpAnyH_take (i := 4) (oi := ⟨some 148, _, _, _, _, _⟩) (v := ?v905) rfl (by kernel_rfl) (by kernel_rfl) (by kernel_rfl) (fun _ _ _ h => h) (Or.inl ⟨rfl, ?c905⟩) hH ?r905
            case c905 => (intro w' _; go_simp; (try with_reducible rfl))
            try simp only [Act.put, List.setIfInBounds_toArray, List.set_cons_zero, List.set_cons_succ]
            refine wpAnyH_take (i := 5) (oi := ⟨some 149, _, _, _, _, _⟩) (v := ?v906) rfl (by kernel_rfl) (by kernel_rfl) (by kernel_rfl) (fun _ _ _ h => h) (Or.inl ⟨rfl, ?c906⟩) hH ?r906
            case c906 => (intro w' hS; have z2 := hS.1.cell 2 _ rfl; have zb := hS.2; go_simp; (try with_reducible rfl))
            try simp only [Act.put, List.setIfInBounds_toArray, List.set_cons_zero, List.set_cons_succ]
            refine wpAnyH_take (i := 7) (oi := ⟨some 151, _, _, _, _, _⟩) (v := ?v907) rfl (by kernel_rfl) (by kernel_rfl) (by kernel_rfl) (fun _ _ _ h => h) (Or.inl ⟨rfl, ?c907⟩) hH ?r907
            case c907 => (intro w' _; go_simp; (try with_reducible rfl))
            try simp only [Act.put, List.setIfInBounds_toArray, List.set_cons_zero, List.set_cons_succ]
            refine wpAnyH_take (i := 8) (oi := ⟨some 152, _, _, _, _, _⟩) (v := ?v908) rfl (by kernel_rfl) (by kernel_rfl) (by kernel_rfl) (fun _ _ _ h => h) (Or.inl ⟨rfl, ?c908⟩) hH ?r908
            case c908 => (intro w' _; go_simp; (try with_reducible rfl))
            try simp only [Act.put, List.setIfInBounds_toArray, List.set_cons_zero, List.set_cons_succ]
            refine wpAnyH_take (i := 9) (oi := ⟨some 153, _, _, _, _, _⟩) (v := ?v909) rfl (by kernel_rfl) (by kernel_rfl) (by kernel_rfl) (fun _ _ _ h => h) (Or.inl ⟨rfl, ?c909⟩) hH ?r909
            case c909 => (intro w' hS; have z2 := hS.1.cell 2 _ rfl; have zb := hS.2; go_simp; (try with_reducible rfl))
            try simp only [Act.put, List.setIfInBounds_toArray, List.set_cons_zero, List.set_cons_succ]
            refine wpAnyH_ready (rs := [6]) (by kernel_rfl) (by simp) (AllReadyH.cons rfl (fun K hK => ?_) (AllReadyH.nil))
            go_simp
            go_at_call 22
            refine HHO.out.mono ?_
            rintro e w7 ⟨rfl, rfl⟩
            refine hK.out _ _ (hH) (fun hH => ?_)
            clear hK K
            try simp only [Act.put, List.setIfInBounds_toArray, List.set_cons_zero, List.set_cons_succ]
            refine wpAnyH_ready (rs := [10]) (by kernel_rfl) (by simp) (AllReadyH.cons rfl (fun K hK => ?_) (AllReadyH.nil))
            go_simp
            go_at_call 23
            refine HRO.out.mono ?_
            rintro e w7 ⟨rfl, rfl⟩
            refine hK.out _ _ (hH) (fun hH => ?_)
            clear hK K
            try simp only [Act.put, List.setIfInBounds_toArray, List.set_cons_zero, List.set_cons_succ]
            refine wpAnyH_take (i := 11) (oi := ⟨some 155, _, _, _, _, _⟩) (v := ?v910) rfl (by kernel_rfl) (by kernel_rfl) (by kernel_rfl) (fun _ _ _ h => h) (Or.inl ⟨rfl, ?c910⟩) hH ?r910
            case c910 => (intro w' _; go_simp; (try simp only [bne_self_eq_false]); (try with_reducible rfl))
            try simp only [Act.put, List.setIfInBounds_toArray, List.set_cons_zero, List.set_cons_succ]
            refine wpAnyH_take (i := 12) (oi := ⟨some 156, _, _, _, _, _⟩) (v := ?v911) rfl (by kernel_rfl) (by kernel_rfl) (by kernel_rfl) (fun _ _ _ h => h) (Or.inl ⟨rfl, ?c911⟩) hH ?r911
            case c911 => (intro w' _; go_simp; (try with_reducible rfl))
            try simp only [Act.put, List.setIfInBounds_toArray, List.set_cons_zero, List.set_cons_succ]
            refine wpAnyH_take (i := 13) (oi := ⟨some 157, _, _, _, _, _⟩) (v := ?v912) rfl (by kernel_rfl) (by kernel_rfl) (by kernel_rfl) (fun _ _ _ h => h) (Or.inl ⟨rfl, ?c912⟩) hH ?r912
            case c912 => (intro w' _; go_simp; (try with_reducible rfl))
            try simp only [Act.put, List.setIfInBounds_toArray, List.set_cons_zero, List.set_cons_succ]
            refine wpAnyH_take (i := 14) (oi := ⟨some 158, _, _, _, _, _⟩) (v := ?v913) rfl (by kernel_rfl) (by kernel_rfl) (by kernel_rfl) (fun _ _ _ h => h) (Or.inl ⟨rfl, ?c913⟩) hH ?r913
            case c913 => (intro w' _; go_simp; (try with_reducible rfl))
            try simp only [Act.put, List.setIfInBounds_toArray, List.set_cons_zero, List.set_cons_succ]
            refine wpAnyH_take (i := 16) (oi := ⟨some 160, _, _, _, _, _⟩) (v := ?v914) rfl (by kernel_rfl) (by kernel_rfl) (by kernel_rfl) (fun _ _ _ h => h) (Or.inl ⟨rfl, ?c914⟩) hH ?r914
            case c914 => (intro w' _; go_simp; (try with_reducible rfl))
            try simp only [Act.put, List.setIfInBounds_toArray, List.set_cons_zero, List.set_cons_succ]
            refine wpAnyH_take (i := 17) (oi := ⟨some 161, _, _, _, _, _⟩) (v := ?v915) rfl (by kernel_rfl) (by kernel_rfl) (by kernel_rfl) (fun _ _ _ h => h) (Or.inl ⟨rfl, ?c915⟩) hH ?r915
            case c915 => (intro w' _; go_simp; (try with_reducible rfl))
            try simp only [Act.put, List.setIfInBounds_toArray, List.set_cons_zero, List.set_cons_succ]
            refine wpAnyH_take (i := 18) (oi := ⟨some 162, _, _, _, _, _⟩) (v := ?v916) rfl (by kernel_rfl) (by kernel_rfl) (by kernel_rfl) (fun _ _ _ h => h) (Or.inl ⟨rfl, ?c916⟩) hH ?r916
            case c916 => (intro w' _; go_simp; (try with_reducible rfl))
            try simp only [Act.put, List.setIfInBounds_toArray, List.set_cons_zero, List.set_cons_succ]
            refine wpAnyH_take (i := 19) (oi := ⟨some 163, _, _, _, _, _⟩) (v := ?v917) rfl (by kernel_rfl) (by kernel_rfl) (by kernel_rfl) (fun _ _ _ h => h) (Or.inl ⟨rfl, ?c917⟩) hH ?r917
            case c917 => (intro w' hS; have z2 := hS.1.cell 2 _ rfl; have zb := hS.2; go_simp; (try with_reducible rfl))
            try simp only [Act.put, List.setIfInBounds_toArray, List.set_cons_zero, List.set_cons_succ]
            refine wpAnyH_take (i := 20) (oi := ⟨some 164, _, _, _, _, _⟩) (v := ?v918) rfl (by kernel_rfl) (by kernel_rfl) (by kernel_rfl) (fun _ _ _ h => h) (Or.inl ⟨rfl, ?c918⟩) hH ?r918
            case c918 => (intro w' _; go_simp; (try with_reducible rfl))
            try simp only [Act.put, List.setIfInBounds_toArray, List.set_cons_zero, List.set_cons_succ]
            refine wpAnyH_ready (rs := [15]) (by kernel_rfl) (by simp) (AllReadyH.cons rfl (fun K hK => ?_) (AllReadyH.nil))
            go_simp
            go_at_call 24
            refine HWO.out.mono ?_
            rintro e w7 ⟨rfl, rfl⟩
            refine hK.out _ _ (hH) (fun hH => ?_)
            clear hK K
            try simp only [Act.put, List.setIfInBounds_toArray, List.set_cons_zero, List.set_cons_succ]
            refine wpAnyH_take (i := 21) (oi := ⟨some 165, _, _, _, _, _⟩) (v := ?v919) rfl (by kernel_rfl) (by kernel_rfl) (by kernel_rfl) (fun _ _ _ h => h) (Or.inl ⟨rfl, ?c919⟩) hH ?r919
            case c919 => (intro w' _; go_simp; (try simp only [bne_self_eq_false]); (try with_reducible rfl))
            try simp only [Act.put, List.setIfInBounds_toArray, List.set_cons_zero, List.set_cons_succ]
            refine wpAnyH_take (i := 22) (oi := ⟨some 166, _, _, _, _, _⟩) (v := ?v920) rfl (by kernel_rfl) (by kernel_rfl) (by kernel_rfl) (fun _ _ _ h => h) (Or.inl ⟨rfl, ?c920⟩) hH ?r920
            case c920 => (intro w' _; go_simp; (try with_reducible rfl))
            try simp only [Act.put, List.setIfInBounds_toArray, List.set_cons_zero, List.set_cons_succ]
            refine wpAnyH_done (by kernel_rfl) ?_ _
            clear hH
            go_wp2_with fail
            go_roundw
            case rel => exact ⟨i + 1, O1p, O2p, loadS s t a, by go_num, by omega, by omega, HT7, HN7⟩
            case measure => simp [RowKit.intOf]; omega
        · as_aux_lemma =>
            go_wp2_with fail
            rw [HGU.out.2, HGU.out.1]
            refine wp_region_held_drew (S := fun w' => Blk w' g #[.int .u8 k, .int .i64 t, .int .i64 a, .int .u64 o, .int .u64 n] 29) (by kernel_rfl) (HXD.out) (fun hH => ?_)
            refine wpAnyH_take (i := 0) (oi := ⟨some 65, _, _, _, _, _⟩) (v := ?v1801) rfl (by kernel_rfl) (by kernel_rfl) (by kernel_rfl) (fun _ _ _ h => h) (Or.inl ⟨rfl, ?c1801⟩) hH ?r1801
            case c1801 => (intro w' _; go_simp; (try with_reducible rfl))
            try simp only [Act.put, List.setIfInBounds_toArray, List.set_cons_zero, List.set_cons_succ]
            refine wpAnyH_take (i := 1) (oi := ⟨some 66, _, _, _, _, _⟩) (v := ?v1802) rfl (by kernel_rfl) (by kernel_rfl) (by kernel_rfl) (fun _ _ _ h => h) (Or.inl ⟨rfl, ?c1802⟩) hH ?r1802
            case c1802 => (intro w' _; go_simp; (try with_reducible rfl))
            try simp only [Act.put, List.setIfInBounds_toArray, List.set_cons_zero, List.set_cons_succ]
            refine wpAnyH_take (i := 2) (oi := ⟨some 67, _, _, _, _, _⟩) (v := ?v1803) rfl (by kernel_rfl) (by kernel_rfl) (by kernel_rfl) (fun _ _ _ h => h) (Or.inl ⟨rfl, ?c1803⟩) hH ?r1803
            case c1803 => (intro w' hS; have z0 := hS.cell 0 _ rfl; have z1 := hS.cell 1 _ rfl; have z2 := hS.cell 2 _ rfl; have z3 := hS.cell 3 _ rfl; have z4 := hS.cell 4 _ rfl; go_simp; (try with_reducible rfl))
            try simp only [Act.put, List.setIfInBounds_toArray, List.set_cons_zero, List.set_cons_succ]
            refine wpAnyH_take (i := 3) (oi := ⟨some 68, _, _, _, _, _⟩) (v := ?v1804) rfl (by kernel_rfl) (by kernel_rfl) (by kernel_rfl) (fun _ _ _ h => h) (Or.inl ⟨rfl, ?c1804⟩) hH ?r1804
            case c1804 => (intro w' _; go_simp; (try with_reducible rfl))
            try simp only [Act.put, List.setIfInBounds_toArray, List.set_cons_zero, List.set_cons_succ]
            refine wpAnyH_take (i := 4) (oi := ⟨some 69, _, _, _, _, _⟩) (v := ?v1805) rfl (by kernel_rfl) (by kernel_rfl) (by kernel_rfl) (fun _ _ _ h => h) (Or.inl ⟨rfl, ?c1805⟩) hH ?r1805
            case c1805 => (intro w' hS; have z0 := hS.cell 0 _ rfl; have z1 := hS.cell 1 _ rfl; have z2 := hS.cell 2 _ rfl; have z3 := hS.cell 3 _ rfl; have z4 := hS.cell 4 _ rfl; go_simp; (try with_reducible rfl))
            try simp only [Act.put, List.setIfInBounds_toArray, List.set_cons_zero, List.set_cons_succ]
            refine wpAnyH_take (i := 5) (oi := ⟨some 70, _, _, _, _, _⟩) (v := ?v1806) rfl (by kernel_rfl) (by kernel_rfl) (by kernel_rfl) (fun _ _ _ h => h) (Or.inl ⟨rfl, ?c1806⟩) hH ?r1806
            case c1806 => (intro w' _; go_simp; (try with_reducible rfl))
            try simp only [Act.put, List.setIfInBounds_toArray, List.set_cons_zero, List.set_cons_succ]
            refine wpAnyH_take (i := 6) (oi := ⟨some 71, _, _, _, _, _⟩) (v := ?v1807) rfl (by kernel_rfl) (by kernel_rfl) (by kernel_rfl) (fun _ _ _ h => h) (Or.inl ⟨rfl, ?c1807⟩) hH ?r1807
            case c1807 => (intro w' hS; have z0 := hS.cell 0 _ rfl; have z1 := hS.cell 1 _ rfl; have z2 := hS.cell 2 _ rfl; have z3 := hS.cell 3 _ rfl; have z4 := hS.cell 4 _ rfl; go_simp; (try with_reducible rfl))
            try simp only [Act.put, List.setIfInBounds_toArray, List.set_cons_zero, List.set_cons_succ]
            refine wpAnyH_take (i := 7) (oi := ⟨some 72, _, _, _, _, _⟩) (v := ?v1808) rfl (by kernel_rfl) (by kernel_rfl) (by kernel_rfl) (fun _ _ _ h => h) (Or.inl ⟨rfl, ?c1808⟩) hH ?r1808
            case c1808 => (intro w' _; go_simp; (try with_reducible rfl))
            try simp only [Act.put, List.setIfInBounds_toArray, List.set_cons_zero, List.set_cons_succ]
            refine wpAnyH_take (i := 8) (oi := ⟨some 73, _, _, _, _, _⟩) (v := ?v1809) rfl (by kernel_rfl) (by kernel_rfl) (by kernel_rfl) (fun _ _ _ h => h) (Or.inl ⟨rfl, ?c1809⟩) hH ?r1809
            case c1809 => (intro w' hS; have z0 := hS.cell 0 _ rfl; have z1 := hS.cell 1 _ rfl; have z2 := hS.cell 2 _ rfl; have z3 := hS.cell 3 _ rfl; have z4 := hS.cell 4 _ rfl; go_simp; (try with_reducible rfl))
            try simp only [Act.put, List.setIfInBounds_toArray, List.set_cons_zero, List.set_cons_succ]
            refine wpAnyH_take (i := 10) (oi := ⟨some 75, _, _, _, _, _⟩) (v := ?v1810) rfl (by kernel_rfl) (by kernel_rfl) (by kernel_rfl) (fun _ _ _ h => h) (Or.inl ⟨rfl, ?c1810⟩) hH ?r1810
            case c1810 => (intro w' _; go_simp; (try with_reducible rfl))
            try simp only [Act.put, List.setIfInBounds_toArray, List.set_cons_zero, List.set_cons_succ]
            refine wpAnyH_take (i := 11) (oi := ⟨some 76, _, _, _, _, _⟩) (v := ?v1811) rfl (by kernel_rfl) (by kernel_rfl) (by kernel_rfl) (fun _ _ _ h => h) (Or.inl ⟨rfl, ?c1811⟩) hH ?r1811
            case c1811 => (intro w' _; go_simp; (try with_reducible rfl))
            try simp only [Act.put, List.setIfInBounds_toArray, List.set_cons_zero, List.set_cons_succ]
            refine wpAnyH_take (i := 12) (oi := ⟨some 77, _, _, _, _, _⟩) (v := ?v1812) rfl (by kernel_rfl) (by kernel_rfl) (by kernel_rfl) (fun _ _ _ h => h) (Or.inl ⟨rfl, ?c1812⟩) hH ?r1812
            case c1812 => (intro w' hS; have z0 := hS.cell 0 _ rfl; have z1 := hS.cell 1 _ rfl; have z2 := hS.cell 2 _ rfl; have z3 := hS.cell 3 _ rfl; have z4 := hS.cell 4 _ rfl; go_simp; (try with_reducible rfl))
            try simp only [Act.put, List.setIfInBounds_toArray, List.set_cons_zero, List.set_cons_succ]
            refine wpAnyH_take (i := 13) (oi := ⟨some 78, _, _, _, _, _⟩) (v := ?v1813) rfl (by kernel_rfl) (by kernel_rfl) (by kernel_rfl) (fun _ _ _ h => h) (Or.inl ⟨rfl, ?c1813⟩) hH ?r1813
            case c1813 => (intro w' _; go_simp; (try with_reducible rfl))
            try simp only [Act.put, List.setIfInBounds_toArray, List.set_cons_zero, List.set_cons_succ]
            refine wpAnyH_take (i := 14) (oi := ⟨some 79, _, _, _, _, _⟩) (v := ?v1814) rfl (by kernel_rfl) (by kernel_rfl) (by kernel_rfl) (fun _ _ _ h => h) (Or.inl ⟨rfl, ?c1814⟩) hH ?r1814
            case c1814 => (intro w' hS; have z0 := hS.cell 0 _ rfl; have z1 := hS.cell 1 _ rfl; have z2 := hS.cell 2 _ rfl; have z3 := hS.cell 3 _ rfl; have z4 := hS.cell 4 _ rfl; go_simp; (try with_reducible rfl))
            try simp only [Act.put, List.setIfInBounds_toArray, List.set_cons_zero, List.set_cons_succ]
            refine wpAnyH_take (i := 15) (oi := ⟨some 80, _, _, _, _, _⟩) (v := ?v1815) rfl (by kernel_rfl) (by kernel_rfl) (by kernel_rfl) (fun _ _ _ h => h) (Or.inl ⟨rfl, ?c1815⟩) hH ?r1815
            case c1815 => (intro w' _; go_simp; (try with_reducible rfl))
            try simp only [Act.put, List.setIfInBounds_toArray, List.set_cons_zero, List.set_cons_succ]
            refine wpAnyH_take (i := 16) (oi := ⟨some 81, _, _, _, _, _⟩) (v := ?v1816) rfl (by kernel_rfl) (by kernel_rfl) (by kernel_rfl) (fun _ _ _ h => h) (Or.inl ⟨rfl, ?c1816⟩) hH ?r1816
            case c1816 => (intro w' hS; have z0 := hS.cell 0 _ rfl; have z1 := hS.cell 1 _ rfl; have z2 := hS.cell 2 _ rfl; have z3 := hS.cell 3 _ rfl; have z4 := hS.cell 4 _ rfl; go_simp; (try with_reducible rfl))
            try simp only [Act.put, List.setIfInBounds_toArray, List.set_cons_zero, List.set_cons_succ]
            refine wpAnyH_take (i := 17) (oi := ⟨some 82, _, _, _, _, _⟩) (v := ?v1817) rfl (by kernel_rfl) (by kernel_rfl) (by kernel_rfl) (fun _ _ _ h => h) (Or.inl ⟨rfl, ?c1817⟩) hH ?r1817
            case c1817 => (intro w' _; go_simp; (try with_reducible rfl))
            try simp only [Act.put, List.setIfInBounds_toArray, List.set_cons_zero, List.set_cons_succ]
            refine wpAnyH_take (i := 18) (oi := ⟨some 83, _, _, _, _, _⟩) (v := ?v1818) rfl (by kernel_rfl) (by kernel_rfl) (by kernel_rfl) (fun _ _ _ h => h) (Or.inl ⟨rfl, ?c1818⟩) hH ?r1818
            case c1818 => (intro w' hS; have z0 := hS.cell 0 _ rfl; have z1 := hS.cell 1 _ rfl; have z2 := hS.cell 2 _ rfl; have z3 := hS.cell 3 _ rfl; have z4 := hS.cell 4 _ rfl; go_simp; (try with_reducible rfl))
            try simp only [Act.put, List.setIfInBounds_toArray, List.set_cons_zero, List.set_cons_succ]
            refine wpAnyH_ready (rs := [9]) (by kernel_rfl) (by simp) (AllReadyH.cons rfl (fun K hK => ?_) (AllReadyH.nil))
            go_simp
            go_at_call 13
            refine (swap_any HTD.out.mem t a o n HN0.out (by have := HN.out.2; omega)).mono ?_
            intro e w5 hd
            obtain ⟨O1p, rfl, hh, ho⟩ := HTD.out.does hd
            have HT5 := Lib.hid hh
            refine hK.out _ _ (Blk.only hH ho (fun e => HG1.out _ e rfl)) (fun hH => ?_)
            clear hK K
            clear hd hh ho
            try simp only [Act.put, List.setIfInBounds_toArray, List.set_cons_zero, List.set_cons_succ]
            refine wpAnyH_ready (rs := [19]) (by kernel_rfl) (by simp) (AllReadyH.cons rfl (fun K hK => ?_) (AllReadyH.nil))
            go_simp
            go_at_call 14
            refine (refSwap_any HT5.out.ref t a o n HN0.out (by have := HN.out.2; omega)).mono ?_
            intro e w6 hd
            obtain ⟨O2p, rfl, hh, ho⟩ := HT5.out.rdoes hd
            have HT6 := Lib.hid hh
            refine hK.out _ _ (Blk.only hH ho (fun e => HG2.out _ e rfl)) (fun hH => ?_)
            clear hK K
            clear hd hh ho HT5
            try simp only [Act.put, List.setIfInBounds_toArray, List.set_cons_zero, List.set_cons_succ]
            refine wpAnyH_take (i := 20) (oi := ⟨some 85, _, _, _, _, _⟩) (v := ?v1819) rfl (by kernel_rfl) (by kernel_rfl) (by kernel_rfl) (fun _ _ _ h => h) (Or.inl ⟨rfl, ?c1819⟩) hH ?r1819
            case c1819 => (intro w' _; go_simp; (try with_reducible rfl))
            try simp only [Act.put, List.setIfInBounds_toArray, List.set_cons_zero, List.set_cons_succ]
            refine wpAnyH_take (i := 21) (oi := ⟨some 11, _, _, _, _, _⟩) (v := ?v1820) rfl (by kernel_rfl) (by kernel_rfl) (by kernel_rfl) (fun _ _ _ h => h) (Or.inl ⟨rfl, ?c1820⟩) hH ?r1820
            case c1820 => (intro w' _; go_simp; (try with_reducible rfl))
            try simp only [Act.put, List.setIfInBounds_toArray, List.set_cons_zero, List.set_cons_succ]
            refine wpAnyH_done (by kernel_rfl) ?_ _
            have HX6 := Lib.hid hH
            clear hH
            have HN7 : Hid ((swapS s t a o n).ws.length ≤ 8192 + (i + 1) ∧ (swapS s t a o n).ls.length ≤ i + 1) := swap_lens s t a o n HN.out
            go_wp2_with fail
            have HT7 := Lib.hid (HT6.out.next (Below.refl _ _).drew)
            have HX7 := Lib.hid (HX6.out.drew)
            obtain ⟨⟨vw, vh, vl, hmm⟩, -⟩ := HT7.out.ref
            obtain ⟨Aw, cw, rfl, -, -⟩ := hmm.len0
            have b0 := hmm.blk.cell 0 _ rfl
            have HHO := Lib.hid (holder_any HT7.out.mem a)
            have HRO := Lib.hid (refHolder_any HT7.out.ref a)
            have HWO := Lib.hid (words_any HT7.out.mem)
            clear hmm
            generalize holdV (swapS s t a o n) a = yv at HHO HRO
            obtain ⟨Nw, hNw⟩ : ∃ N, (swapS s t a o n).ws.length = N := ⟨_, rfl⟩
            rw [hNw] at HWO b0
            clear hNw HT6 HX6
            refine wp_region_held_drew (S := fun w' => Blk w' g #[.int .u8 k, .int .i64 t, .int .i64 a, .int .u64 o, .int .u64 n] 29 ∧ w'.cell? ⟨B2, 0, none⟩ = some (.slice Aw Nw cw)) (by kernel_rfl) (⟨HX7.out, b0⟩) (fun hH => ?_)
            refine wpAnyH_take (i := 0) (oi := ⟨some 144, _, _, _, _, _⟩) (v := ?v1501) rfl (by kernel_rfl) (by kernel_rfl) (by kernel_rfl) (fun _ _ _ h => h) (Or.inl ⟨rfl, ?c1501⟩) hH ?r1501
            case c1501 => (intro w' _; go_simp; (try with_reducible rfl))
            try simp only [Act.put, List.setIfInBounds_toArray, List.set_cons_zero, List.set_cons_succ]
            refine wpAnyH_take (i := 1) (oi := ⟨some 145, _, _, _, _, _⟩) (v := ?v1502) rfl (by kernel_rfl) (by kernel_rfl) (by kernel_rfl) (fun _ _ _ h => h) (Or.inl ⟨rfl, ?c1502⟩) hH ?r1502
            case c1502 => (intro w' _; go_simp; (try with_reducible rfl))
            try simp only [Act.put, List.setIfInBounds_toArray, List.set_cons_zero, List.set_cons_succ]
            refine wpAnyH_take (i := 2) (oi := ⟨some 146, _, _, _, _, _⟩) (v := ?v1503) rfl (by kernel_rfl) (by kernel_rfl) (by kernel_rfl) (fun _ _ _ h => h) (Or.inl ⟨rfl, ?c1503⟩) hH ?r1503
            case c1503 => (intro w' _; go_simp; (try with_reducible rfl))
            try simp only [Act.put, List.setIfInBounds_toArray, List.set_cons_zero, List.set_cons_succ]
            refine wpAnyH_take (i := 3) (oi := ⟨some 147, _, _, _, _, _⟩) (v := ?v1504) rfl (by kernel_rfl) (by kernel_rfl) (by kernel_rfl) (fun _ _ _ h => h) (Or.inl ⟨rfl, ?c1504⟩) hH ?r1504
            case c1504 => (intro w' _; go_simp; (try with_reducible rfl))
            try simp only [Act.put, List.setIfInBounds_toArray, List.set_cons_zero, List.set_cons_succ]
            refine wpAnyH_take (i := 4) (oi := ⟨some 148, _, _, _, _, _⟩) (v := ?v1505) rfl (by kernel_rfl) (by kernel_rfl) (by kernel_rfl) (fun _ _ _ h => h) (Or.inl ⟨rfl, ?c1505⟩) hH ?r1505
            case c1505 => (intro w' _; go_simp; (try with_reducible rfl))
            try simp only [Act.put, List.setIfInBounds_toArray, List.set_cons_zero, List.set_cons_succ]
            refine wpAnyH_take (i := 5) (oi := ⟨some 149, _, _, _, _, _⟩) (v := ?v1506) rfl (by kernel_rfl) (by kernel_rfl) (by kernel_rfl) (fun _ _ _ h => h) (Or.inl ⟨rfl, ?c1506⟩) hH ?r1506
            case c1506 => (intro w' hS; have z2 := hS.1.cell 2 _ rfl; have zb := hS.2; go_simp; (try with_reducible rfl))
            try simp only [Act.put, List.setIfInBounds_toArray, List.set_cons_zero, List.set_cons_succ]
            refine wpAnyH_take (i := 7) (oi := ⟨some 151, _, _, _, _, _⟩) (v := ?v1507) rfl (by kernel_rfl) (by kernel_rfl) (by kernel_rfl) (fun _ _ _ h => h) (Or.inl ⟨rfl, ?c1507⟩) hH ?r1507
            case c1507 => (intro w' _; go_simp; (try with_reducible rfl))
            try simp only [Act.put, List.setIfInBounds_toArray, List.set_cons_zero, List.set_cons_succ]
            refine wpAnyH_take (i := 8) (oi := ⟨some 152, _, _, _, _, _⟩) (v := ?v1508) rfl (by kernel_rfl) (by kernel_rfl) (by kernel_rfl) (fun _ _ _ h => h) (Or.inl ⟨rfl, ?c1508⟩) hH ?r1508
            case c1508 => (intro w' _; go_simp; (try with_reducible rfl))
            try simp only [Act.put, List.setIfInBounds_toArray, List.set_cons_zero, List.set_cons_succ]
            refine wpAnyH_take (i := 9) (oi := ⟨some 153, _, _, _, _, _⟩) (v := ?v1509) rfl (by kernel_rfl) (by kernel_rfl) (by kernel_rfl) (fun _ _ _ h => h) (Or.inl ⟨rfl, ?c1509⟩) hH ?r1509
            case c1509 => (intro w' hS; have z2 := hS.1.cell 2 _ rfl; have zb := hS.2; go_simp; (try with_reducible rfl))
            try simp only [Act.put, List.setIfInBounds_toArray, List.set_cons_zero, List.set_cons_succ]
            refine wpAnyH_ready (rs := [6]) (by kernel_rfl) (by simp) (AllReadyH.cons rfl (fun K hK => ?_) (AllReadyH.nil))
            go_simp
            go_at_call 22
            refine HHO.out.mono ?_
            rintro e w7 ⟨rfl, rfl⟩
            refine hK.out _ _ (hH) (fun hH => ?_)
            clear hK K
            try simp only [Act.put, List.setIfInBounds_toArray, List.set_cons_zero, List.set_cons_succ]
            refine wpAnyH_ready (rs := [10]) (by kernel_rfl) (by simp) (AllReadyH.cons rfl (fun K hK => ?_) (AllReadyH.nil))
            go_simp
            go_at_call 23
            refine HRO.out.mono ?_
            rintro e w7 ⟨rfl, rfl⟩
            refine hK.out _ _ (hH) (fun hH => ?_)
            clear hK K
            try simp only [Act.put, List.setIfInBounds_toArray, List.set_cons_zero, List.set_cons_succ]
            refine wpAnyH_take (i := 11) (oi := ⟨some 155, _, _, _, _, _⟩) (v := ?v1510) rfl (by kernel_rfl) (by kernel_rfl) (by kernel_rfl) (fun _ _ _ h => h) (Or.inl ⟨rfl, ?c1510⟩) hH ?r1510
            case c1510 => (intro w' _; go_simp; (try simp only [bne_self_eq_false]); (try with_reducible rfl))
            try simp only [Act.put, List.setIfInBounds_toArray, List.set_cons_zero, List.set_cons_succ]
            refine wpAnyH_take (i := 12) (oi := ⟨some 156, _, _, _, _, _⟩) (v := ?v1511) rfl (by kernel_rfl) (by kernel_rfl) (by kernel_rfl) (fun _ _ _ h => h) (Or.inl ⟨rfl, ?c1511⟩) hH ?r1511
            case c1511 => (intro w' _; go_simp; (try with_reducible rfl))
            try simp only [Act.put, List.setIfInBounds_toArray, List.set_cons_zero, List.set_cons_succ]
            refine wpAnyH_take (i := 13) (oi := ⟨some 157, _, _, _, _, _⟩) (v := ?v1512) rfl (by kernel_rfl) (by kernel_rfl) (by kernel_rfl) (fun _ _ _ h => h) (Or.inl ⟨rfl, ?c1512⟩) hH ?r1512
            case c1512 => (intro w' _; go_simp; (try with_reducible rfl))
            try simp only [Act.put, List.setIfInBounds_toArray, List.set_cons_zero, List.set_cons_succ]
            refine wpAnyH_take (i := 14) (oi := ⟨some 158, _, _, _, _, _⟩) (v := ?v1513) rfl (by kernel_rfl) (by kernel_rfl) (by kernel_rfl) (fun _ _ _ h => h) (Or.inl ⟨rfl, ?c1513⟩) hH ?r1513
            case c1513 => (intro w' _; go_simp; (try with_reducible rfl))
            try simp only [Act.put, List.setIfInBounds_toArray, List.set_cons_zero, List.set_cons_succ]
            refine wpAnyH_take (i := 16) (oi := ⟨some 160, _, _, _, _, _⟩) (v := ?v1514) rfl (by kernel_rfl) (by kernel_rfl) (by kernel_rfl) (fun _ _ _ h => h) (Or.inl ⟨rfl, ?c1514⟩) hH ?r1514
            case c1514 => (intro w' _; go_simp; (try with_reducible rfl))
            try simp only [Act.put, List.setIfInBounds_toArray, List.set_cons_zero, List.set_cons_succ]
            refine wpAnyH_take (i := 17) (oi := ⟨some 161, _, _, _, _, _⟩) (v := ?v1515) rfl (by kernel_rfl) (by kernel_rfl) (by kernel_rfl) (fun _ _ _ h => h) (Or.inl ⟨rfl, ?c1515⟩) hH ?r1515
            case c1515 => (intro w' _; go_simp; (try with_reducible rfl))
            try simp only [Act.put, List.setIfInBounds_toArray, List.set_cons_zero, List.set_cons_succ]
            refine wpAnyH_take (i := 18) (oi := ⟨some 162, _, _, _, _, _⟩) (v := ?v1516) rfl (by kernel_rfl) (by kernel_rfl) (by kernel_rfl) (fun _ _ _ h => h) (Or.inl ⟨rfl, ?c1516⟩) hH ?r1516
            case c1516 => (intro w' _; go_simp; (try with_reducible rfl))
            try simp only [Act.put, List.setIfInBounds_toArray, List.set_cons_zero, List.set_cons_succ]
            refine wpAnyH_take (i := 19) (oi := ⟨some 163, _, _, _, _, _⟩) (v := ?v1517) rfl (by kernel_rfl) (by kernel_rfl) (by kernel_rfl) (fun _ _ _ h => h) (Or.inl ⟨rfl, ?c1517⟩) hH ?r1517
            case c1517 => (intro w' hS; have z2 := hS.1.cell 2 _ rfl; have zb := hS.2; go_simp; (try with_reducible rfl))
            try simp only [Act.put, List.setIfInBounds_toArray, List.set_cons_zero, List.set_cons_succ]
            refine wpAnyH_take (i := 20) (oi := ⟨some 164, _, _, _, _, _⟩) (v := ?v1518) rfl (by kernel_rfl) (by kernel_rfl) (by kernel_rfl) (fun _ _ _ h => h) (Or.inl ⟨rfl, ?c1518⟩) hH ?r1518
            case c1518 => (intro w' _; go_simp; (try with_reducible rfl))
            try simp only [Act.put, List.setIfInBounds_toArray, List.set_cons_zero, List.set_cons_succ]
            refine wpAnyH_ready (rs := [15]) (by kernel_rfl) (by simp) (AllReadyH.cons rfl (fun K hK => ?_) (AllReadyH.nil))
            go_simp
            go_at_call 24
            refine HWO.out.mono ?_
            rintro e w7 ⟨rfl, rfl⟩
            refine hK.out _ _ (hH) (fun hH => ?_)
            clear hK K
            try simp only [Act.put, List.setIfInBounds_toArray, List.set_cons_zero, List.set_cons_succ]
            refine wpAnyH_take (i := 21) (oi := ⟨some 165, _, _, _, _, _⟩) (v := ?v1519) rfl (by kernel_rfl) (by kernel_rfl) (by kernel_rfl) (fun _ _ _ h => h) (Or.inl ⟨rfl, ?c1519⟩) hH ?r1519
            case c1519 => (intro w' _; go_simp; (try simp only [bne_self_eq_false]); (try with_reducible rfl))
            try simp only [Act.put, List.setIfInBounds_toArray, List.set_cons_zero, List.set_cons_succ]
            refine wpAnyH_take (i := 22) (oi := ⟨some 166, _, _, _, _, _⟩) (v := ?v1520) rfl (by kernel_rfl) (by kernel_rfl) (by kernel_rfl) (fun _ _ _ h => h) (Or.inl ⟨rfl, ?c1520⟩) hH ?r1520
            case c1520 => (intro w' _; go_simp; (try with_reducible rfl))
            try simp only [Act.put, List.setIfInBounds_toArray, List.set_cons_zero, List.set_cons_succ]
            refine wpAnyH_done (by kernel_rfl) ?_ _
            clear hH
            go_wp2_with fail
            go_roundw
            case rel => exact ⟨i + 1, O1p, O2p, swapS s t a o n, by go_num, by omega, by omega, HT7, HN7⟩
            case measure => simp [RowKit.intOf]; omega
        · as_aux_lemma =>
            go_wp2_with fail
            rw [HGU.out.2, HGU.out.1]
            refine wp_region_held_drew (S := fun w' => Blk w' g #[.int .u8 k, .int .i64 t, .int .i64 a, .int .u64 o, .int .u64 n] 29) (by kernel_rfl) (HXD.out) (fun hH => ?_)
            refine wpAnyH_take (i := 0) (oi := ⟨some 65, _, _, _, _, _⟩) (v := ?v2401) rfl (by kernel_rfl) (by kernel_rfl) (by kernel_rfl) (fun _ _ _ h => h) (Or.inl ⟨rfl, ?c2401⟩) hH ?r2401
            case c2401 => (intro w' _; go_simp; (try with_reducible rfl))
            try simp only [Act.put, List.setIfInBounds_toArray, List.set_cons_zero, List.set_cons_succ]
            refine wpAnyH_take (i := 1) (oi := ⟨some 66, _, _, _, _, _⟩) (v := ?v2402) rfl (by kernel_rfl) (by kernel_rfl) (by kernel_rfl) (fun _ _ _ h => h) (Or.inl ⟨rfl, ?c2402⟩) hH ?r2402
            case c2402 => (intro w' _; go_simp; (try with_reducible rfl))
            try simp only [Act.put, List.setIfInBounds_toArray, List.set_cons_zero, List.set_cons_succ]
            refine wpAnyH_take (i := 2) (oi := ⟨some 67, _, _, _, _, _⟩) (v := ?v2403) rfl (by kernel_rfl) (by kernel_rfl) (by kernel_rfl) (fun _ _ _ h => h) (Or.inl ⟨rfl, ?c2403⟩) hH ?r2403
            case c2403 => (intro w' hS; have z0 := hS.cell 0 _ rfl; have z1 := hS.cell 1 _ rfl; have z2 := hS.cell 2 _ rfl; have z3 := hS.cell 3 _ rfl; have z4 := hS.cell 4 _ rfl; go_simp; (try with_reducible rfl))
            try simp only [Act.put, List.setIfInBounds_toArray, List.set_cons_zero, List.set_cons_succ]
            refine wpAnyH_take (i := 3) (oi := ⟨some 68, _, _, _, _, _⟩) (v := ?v2404) rfl (by kernel_rfl) (by kernel_rfl) (by kernel_rfl) (fun _ _ _ h => h) (Or.inl ⟨rfl, ?c2404⟩) hH ?r2404
            case c2404 => (intro w' _; go_simp; (try with_reducible rfl))
            try simp only [Act.put, List.setIfInBounds_toArray, List.set_cons_zero, List.set_cons_succ]
            refine wpAnyH_take (i := 4) (oi := ⟨some 69, _, _, _, _, _⟩) (v := ?v2405) rfl (by kernel_rfl) (by kernel_rfl) (by kernel_rfl) (fun _ _ _ h => h) (Or.inl ⟨rfl, ?c2405⟩) hH ?r2405
            case c2405 => (intro w' hS; have z0 := hS.cell 0 _ rfl; have z1 := hS.cell 1 _ rfl; have z2 := hS.cell 2 _ rfl; have z3 := hS.cell 3 _ rfl; have z4 := hS.cell 4 _ rfl; go_simp; (try with_reducible rfl))
            try simp only [Act.put, List.setIfInBounds_toArray, List.set_cons_zero, List.set_cons_succ]
            refine wpAnyH_take (i := 5) (oi := ⟨some 70, _, _, _, _, _⟩) (v := ?v2406) rfl (by kernel_rfl) (by kernel_rfl) (by kernel_rfl) (fun _ _ _ h => h) (Or.inl ⟨rfl, ?c2406⟩) hH ?r2406
            case c2406 => (intro w' _; go_simp; (try with_reducible rfl))
            try simp only [Act.put, List.setIfInBounds_toArray, List.set_cons_zero, List.set_cons_succ]
            refine wpAnyH_take (i := 6) (oi := ⟨some 71, _, _, _, _, _⟩) (v := ?v2407) rfl (by kernel_rfl) (by kernel_rfl) (by kernel_rfl) (fun _ _ _ h => h) (Or.inl ⟨rfl, ?c2407⟩) hH ?r2407
            case c2407 => (intro w' hS; have z0 := hS.cell 0 _ rfl; have z1 := hS.cell 1 _ rfl; have z2 := hS.cell 2 _ rfl; have z3 := hS.cell 3 _ rfl; have z4 := hS.cell 4 _ rfl; go_simp; (try with_reducible rfl))
            try simp only [Act.put, List.setIfInBounds_toArray, List.set_cons_zero, List.set_cons_succ]
            refine wpAnyH_take (i := 7) (oi := ⟨some 72, _, _, _, _, _⟩) (v := ?v2408) rfl (by kernel_rfl) (by kernel_rfl) (by kernel_rfl) (fun _ _ _ h => h) (Or.inl ⟨rfl, ?c2408⟩) hH ?r2408
            case c2408 => (intro w' _; go_simp; (try with_reducible rfl))
            try simp only [Act.put, List.setIfInBounds_toArray, List.set_cons_zero, List.set_cons_succ]
            refine wpAnyH_take (i := 8) (oi := ⟨some 73, _, _, _, _, _⟩) (v := ?v2409) rfl (by kernel_rfl) (by kernel_rfl) (by kernel_rfl) (fun _ _ _ h => h) (Or.inl ⟨rfl, ?c2409⟩) hH ?r2409
            case c2409 => (intro w' hS; have z0 := hS.cell 0 _ rfl; have z1 := hS.cell 1 _ rfl; have z2 := hS.cell 2 _ rfl; have z3 := hS.cell 3 _ rfl; have z4 := hS.cell 4 _ rfl; go_simp; (try with_reducible rfl))
            try simp only [Act.put, List.setIfInBounds_toArray, List.set_cons_zero, List.set_cons_succ]
            refine wpAnyH_take (i := 10) (oi := ⟨some 75, _, _, _, _, _⟩) (v := ?v2410) rfl (by kernel_rfl) (by kernel_rfl) (by kernel_rfl) (fun _ _ _ h => h) (Or.inl ⟨rfl, ?c2410⟩) hH ?r2410
            case c2410 => (intro w' _; go_simp; (try with_reducible rfl))
            try simp only [Act.put, List.setIfInBounds_toArray, List.set_cons_zero, List.set_cons_succ]
            refine wpAnyH_take (i := 11) (oi := ⟨some 76, _, _, _, _, _⟩) (v := ?v2411) rfl (by kernel_rfl) (by kernel_rfl) (by kernel_rfl) (fun _ _ _ h => h) (Or.inl ⟨rfl, ?c2411⟩) hH ?r2411
            case c2411 => (intro w' _; go_simp; (try with_reducible rfl))
            try simp only [Act.put, List.setIfInBounds_toArray, List.set_cons_zero, List.set_cons_succ]
            refine wpAnyH_take (i := 12) (oi := ⟨some 77, _, _, _, _, _⟩) (v := ?v2412) rfl (by kernel_rfl) (by kernel_rfl) (by kernel_rfl) (fun _ _ _ h => h) (Or.inl ⟨rfl, ?c2412⟩) hH ?r2412
            case c2412 => (intro w' hS; have z0 := hS.cell 0 _ rfl; have z1 := hS.cell 1 _ rfl; have z2 := hS.cell 2 _ rfl; have z3 := hS.cell 3 _ rfl; have z4 := hS.cell 4 _ rfl; go_simp; (try with_reducible rfl))
            try simp only [Act.put, List.setIfInBounds_toArray, List.set_cons_zero, List.set_cons_succ]
            refine wpAnyH_take (i := 13) (oi := ⟨some 78, _, _, _, _, _⟩) (v := ?v2413) rfl (by kernel_rfl) (by kernel_rfl) (by kernel_rfl) (fun _ _ _ h => h) (Or.inl ⟨rfl, ?c2413⟩) hH ?r2413
            case c2413 => (intro w' _; go_simp; (try with_reducible rfl))
            try simp only [Act.put, List.setIfInBounds_toArray, List.set_cons_zero, List.set_cons_succ]
            refine wpAnyH_take (i := 14) (oi := ⟨some 79, _, _, _, _, _⟩) (v := ?v2414) rfl (by kernel_rfl) (by kernel_rfl) (by kernel_rfl) (fun _ _ _ h => h) (Or.inl ⟨rfl, ?c2414⟩) hH ?r2414
            case c2414 => (intro w' hS; have z0 := hS.cell 0 _ rfl; have z1 := hS.cell 1 _ rfl; have z2 := hS.cell 2 _ rfl; have z3 := hS.cell 3 _ rfl; have z4 := hS.cell 4 _ rfl; go_simp; (try with_reducible rfl))
            try simp only [Act.put, List.setIfInBounds_toArray, List.set_cons_zero, List.set_cons_succ]
            refine wpAnyH_take (i := 15) (oi := ⟨some 80, _, _, _, _, _⟩) (v := ?v2415) rfl (by kernel_rfl) (by kernel_rfl) (by kernel_rfl) (fun _ _ _ h => h) (Or.inl ⟨rfl, ?c2415⟩) hH ?r2415
            case c2415 => (intro w' _; go_simp; (try with_reducible rfl))
            try simp only [Act.put, List.setIfInBounds_toArray, List.set_cons_zero, List.set_cons_succ]
            refine wpAnyH_take (i := 16) (oi := ⟨some 81, _, _, _, _, _⟩) (v := ?v2416) rfl (by kernel_rfl) (by kernel_rfl) (by kernel_rfl) (fun _ _ _ h => h) (Or.inl ⟨rfl, ?c2416⟩) hH ?r2416
            case c2416 => (intro w' hS; have z0 := hS.cell 0 _ rfl; have z1 := hS.cell 1 _ rfl; have z2 := hS.cell 2 _ rfl; have z3 := hS.cell 3 _ rfl; have z4 := hS.cell 4 _ rfl; go_simp; (try with_reducible rfl))
            try simp only [Act.put, List.setIfInBounds_toArray, List.set_cons_zero, List.set_cons_succ]
            refine wpAnyH_take (i := 17) (oi := ⟨some 82, _, _, _, _, _⟩) (v := ?v2417) rfl (by kernel_rfl) (by kernel_rfl) (by kernel_rfl) (fun _ _ _ h => h) (Or.inl ⟨rfl, ?c2417⟩) hH ?r2417
            case c2417 => (intro w' _; go_simp; (try with_reducible rfl))
            try simp only [Act.put, List.setIfInBounds_toArray, List.set_cons_zero, List.set_cons_succ]
            refine wpAnyH_take (i := 18) (oi := ⟨some 83, _, _, _, _, _⟩) (v := ?v2418) rfl (by kernel_rfl) (by kernel_rfl) (by kernel_rfl) (fun _ _ _ h => h) (Or.inl ⟨rfl, ?c2418⟩) hH ?r2418
            case c2418 => (intro w' hS; have z0 := hS.cell 0 _ rfl; have z1 := hS.cell 1 _ rfl; have z2 := hS.cell 2 _ rfl; have z3 := hS.cell 3 _ rfl; have z4 := hS.cell 4 _ rfl; go_simp; (try with_reducible rfl))
            try simp only [Act.put, List.setIfInBounds_toArray, List.set_cons_zero, List.set_cons_succ]
            refine wpAnyH_ready (rs := [9]) (by kernel_rfl) (by simp) (AllReadyH.cons rfl (fun K hK => ?_) (AllReadyH.nil))
            go_simp
            go_at_call 13
            refine (swap_any HTD.out.mem t a o n HN0.out (by have := HN.out.2; omega)).mono ?_
            intro e w5 hd
            obtain ⟨O1p, rfl, hh, ho⟩ := HTD.out.does hd
            have HT5 := Lib.hid hh
            refine hK.out _ _ (Blk.only hH ho (fun e => HG1.out _ e rfl)) (fun hH => ?_)
            clear hK K
            clear hd hh ho
            try simp only [Act.put, List.setIfInBounds_toArray, List.set_cons_zero, List.set_cons_succ]
            refine wpAnyH_ready (rs := [19]) (by kernel_rfl) (by simp) (AllReadyH.cons rfl (fun K hK => ?_) (AllReadyH.nil))
            go_simp
            go_at_call 14
            refine (refSwap_any HT5.out.ref t a o n HN0.out (by have := HN.out.2; omega)).mono ?_
            intro e w6 hd
            obtain ⟨O2p, rfl, hh, ho⟩ := HT5.out.rdoes hd
            have HT6 := Lib.hid hh
            refine hK.out _ _ (Blk.only hH ho (fun e => HG2.out _ e rfl)) (fun hH => ?_)
            clear hK K
            clear hd hh ho HT5
            try simp only [Act.put, List.setIfInBounds_toArray, List.set_cons_zero, List.set_cons_succ]
            refine wpAnyH_take (i := 20) (oi := ⟨some 85, _, _, _, _, _⟩) (v := ?v2419) rfl (by kernel_rfl) (by kernel_rfl) (by kernel_rfl) (fun _ _ _ h => h) (Or.inl ⟨rfl, ?c2419⟩) hH ?r2419
            case c2419 => (intro w' _; go_simp; (try with_reducible rfl))
            try simp only [Act.put, List.setIfInBounds_toArray, List.set_cons_zero, List.set_cons_succ]
            refine wpAnyH_take (i := 21) (oi := ⟨some 11, _, _, _, _, _⟩) (v := ?v2420) rfl (by kernel_rfl) (by kernel_rfl) (by kernel_rfl) (fun _ _ _ h => h) (Or.inl ⟨rfl, ?c2420⟩) hH ?r2420
            case c2420 => (intro w' _; go_simp; (try with_reducible rfl))
            try simp only [Act.put, List.setIfInBounds_toArray, List.set_cons_zero, List.set_cons_succ]
            refine wpAnyH_done (by kernel_rfl) ?_ _
            have HX6 := Lib.hid hH
            clear hH
            have HN7 : Hid ((swapS s t a o n).ws.length ≤ 8192 + (i + 1) ∧ (swapS s t a o n).ls.length ≤ i + 1) := swap_lens s t a o n HN.out
            go_wp2_with fail
            have HT7 := Lib.hid (HT6.out.next (Below.refl _ _).drew)
            have HX7 := Lib.hid (HX6.out.drew)
            obtain ⟨⟨vw, vh, vl, hmm⟩, -⟩ := HT7.out.ref
            obtain ⟨Aw, cw, rfl, -, -⟩ := hmm.len0
            have b0 := hmm.blk.cell 0 _ rfl
            have HHO := Lib.hid (holder_any HT7.out.mem a)
            have HRO := Lib.hid (refHolder_any HT7.out.ref a)
            have HWO := Lib.hid (words_any HT7.out.mem)
            clear hmm
            generalize holdV (swapS s t a o n) a = yv at HHO HRO
            obtain ⟨Nw, hNw⟩ : ∃ N, (swapS s t a o n).ws.length = N := ⟨_, rfl⟩
            rw [hNw] at HWO b0
            clear hNw HT6 HX6
            refine wp_region_held_drew (S := fun w' => Blk w' g #[.int .u8 k, .int .i64 t, .int .i64 a, .int .u64 o, .int .u64 n] 29 ∧ w'.cell? ⟨B2, 0, none⟩ = some (.slice Aw Nw cw)) (by kernel_rfl) (⟨HX7.out, b0⟩) (fun hH => ?_)
            refine wpAnyH_take (i := 0) (oi := ⟨some 144, _, _, _, _, _⟩) (v := ?v2101) rfl (by kernel_rfl) (by kernel_rfl) (by kernel_rfl) (fun _ _ _ h => h) (Or.inl ⟨rfl, ?c2101⟩) hH ?r2101
            case c2101 => (intro w' _; go_simp; (try with_reducible rfl))
            try simp only [Act.put, List.setIfInBounds_toArray, List.set_cons_zero, List.set_cons_succ]
            refine wpAnyH_take (i := 1) (oi := ⟨some 145, _, _, _, _, _⟩) (v := ?v2102) rfl (by kernel_rfl) (by kernel_rfl) (by kernel_rfl) (fun _ _ _ h => h) (Or.inl ⟨rfl, ?c2102⟩) hH ?r2102
            case c2102 => (intro w' _; go_simp; (try with_reducible rfl))
            try simp only [Act.put, List.setIfInBounds_toArray, List.set_cons_zero, List.set_cons_succ]
            refine wpAnyH_take (i := 2) (oi := ⟨some 146, _, _, _, _, _⟩) (v := ?v2103) rfl (by kernel_rfl) (by kernel_rfl) (by kernel_rfl) (fun _ _ _ h => h) (Or.inl ⟨rfl, ?c2103⟩) hH ?r2103
            case c2103 => (intro w' _; go_simp; (try with_reducible rfl))
            try simp only [Act.put, List.setIfInBounds_toArray, List.set_cons_zero, List.set_cons_succ]
            refine wpAnyH_take (i := 3) (oi := ⟨some 147, _, _, _, _, _⟩) (v := ?v2104) rfl (by kernel_rfl) (by kernel_rfl) (by kernel_rfl) (fun _ _ _ h => h) (Or.inl ⟨rfl, ?c2104⟩) hH ?r2104
            case c2104 => (intro w' _; go_simp; (try with_reducible rfl))
            try simp only [Act.put, List.setIfInBounds_toArray, List.set_cons_zero, List.set_cons_succ]
            refine wpAnyH_take (i := 4) (oi := ⟨some 148, _, _, _, _, _⟩) (v := ?v2105) rfl (by kernel_rfl) (by kernel_rfl) (by kernel_rfl) (fun _ _ _ h => h) (Or.inl ⟨rfl, ?c2105⟩) hH ?r2105
            case c2105 => (intro w' _; go_simp; (try with_reducible rfl))
            try simp only [Act.put, List.setIfInBounds_toArray, List.set_cons_zero, List.set_cons_succ]
            refine wpAnyH_take (i := 5) (oi := ⟨some 149, _, _, _, _, _⟩) (v := ?v2106) rfl (by kernel_rfl) (by kernel_rfl) (by kernel_rfl) (fun _ _ _ h => h) (Or.inl ⟨rfl, ?c2106⟩) hH ?r2106
            case c2106 => (intro w' hS; have z2 := hS.1.cell 2 _ rfl; have zb := hS.2; go_simp; (try with_reducible rfl))
            try simp only [Act.put, List.setIfInBounds_toArray, List.set_cons_zero, List.set_cons_succ]
            refine wpAnyH_take (i := 7) (oi := ⟨some 151, _, _, _, _, _⟩) (v := ?v2107) rfl (by kernel_rfl) (by kernel_rfl) (by kernel_rfl) (fun _ _ _ h => h) (Or.inl ⟨rfl, ?c2107⟩) hH ?r2107
            case c2107 => (intro w' _; go_simp; (try with_reducible rfl))
            try simp only [Act.put, List.setIfInBounds_toArray, List.set_cons_zero, List.set_cons_succ]
            refine wpAnyH_take (i := 8) (oi := ⟨some 152, _, _, _, _, _⟩) (v := ?v2108) rfl (by kernel_rfl) (by kernel_rfl) (by kernel_rfl) (fun _ _ _ h => h) (Or.inl ⟨rfl, ?c2108⟩) hH ?r2108
            case c2108 => (intro w' _; go_simp; (try with_reducible rfl))
            try simp only [Act.put, List.setIfInBounds_toArray, List.set_cons_zero, List.set_cons_succ]
            refine wpAnyH_take (i := 9) (oi := ⟨some 153, _, _, _, _, _⟩) (v := ?v2109) rfl (by kernel_rfl) (by kernel_rfl) (by kernel_rfl) (fun _ _ _ h => h) (Or.inl ⟨rfl, ?c2109⟩) hH ?r2109
            case c2109 => (intro w' hS; have z2 := hS.1.cell 2 _ rfl; have zb := hS.2; go_simp; (try with_reducible rfl))
            try simp only [Act.put, List.setIfInBounds_toArray, List.set_cons_zero, List.set_cons_succ]
            refine wpAnyH_ready (rs := [6]) (by kernel_rfl) (by simp) (AllReadyH.cons rfl (fun K hK => ?_) (AllReadyH.nil))
            go_simp
            go_at_call 22
            refine HHO.out.mono ?_
            rintro e w7 ⟨rfl, rfl⟩
            refine hK.out _ _ (hH) (fun hH => ?_)
            clear hK K
            try simp only [Act.put, List.setIfInBounds_toArray, List.set_cons_zero, List.set_cons_succ]
            refine wpAnyH_ready (rs := [10]) (by kernel_rfl) (by simp) (AllReadyH.cons rfl (fun K hK => ?_) (AllReadyH.nil))
            go_simp
            go_at_call 23
            refine HRO.out.mono ?_
            rintro e w7 ⟨rfl, rfl⟩
            refine hK.out _ _ (hH) (fun hH => ?_)
            clear hK K
            try simp only [Act.put, List.setIfInBounds_toArray, List.set_cons_zero, List.set_cons_succ]
            refine wpAnyH_take (i := 11) (oi := ⟨some 155, _, _, _, _, _⟩) (v := ?v2110) rfl (by kernel_rfl) (by kernel_rfl) (by kernel_rfl) (fun _ _ _ h => h) (Or.inl ⟨rfl, ?c2110⟩) hH ?r2110
            case c2110 => (intro w' _; go_simp; (try simp only [bne_self_eq_false]); (try with_reducible rfl))
            try simp only [Act.put, List.setIfInBounds_toArray, List.set_cons_zero, List.set_cons_succ]
            refine wpAnyH_take (i := 12) (oi := ⟨some 156, _, _, _, _, _⟩) (v := ?v2111) rfl (by kernel_rfl) (by kernel_rfl) (by kernel_rfl) (fun _ _ _ h => h) (Or.inl ⟨rfl, ?c2111⟩) hH ?r2111
            case c2111 => (intro w' _; go_simp; (try with_reducible rfl))
            try simp only [Act.put, List.setIfInBounds_toArray, List.set_cons_zero, List.set_cons_succ]
            refine wpAnyH_take (i := 13) (oi := ⟨some 157, _, _, _, _, _⟩) (v := ?v2112) rfl (by kernel_rfl) (by kernel_rfl) (by kernel_rfl) (fun _ _ _ h => h) (Or.inl ⟨rfl, ?c2112⟩) hH ?r2112
            case c2112 => (intro w' _; go_simp; (try with_reducible rfl))
            try simp only [Act.put, List.setIfInBounds_toArray, List.set_cons_zero, List.set_cons_succ]
            refine wpAnyH_take (i := 14) (oi := ⟨some 158, _, _, _, _, _⟩) (v := ?v2113) rfl (by kernel_rfl) (by kernel_rfl) (by kernel_rfl) (fun _ _ _ h => h) (Or.inl ⟨rfl, ?c2113⟩) hH ?r2113
            case c2113 => (intro w' _; go_simp; (try with_reducible rfl))
            try simp only [Act.put, List.setIfInBounds_toArray, List.set_cons_zero, List.set_cons_succ]
            refine wpAnyH_take (i := 16) (oi := ⟨some 160, _, _, _, _, _⟩) (v := ?v2114) rfl (by kernel_rfl) (by kernel_rfl) (by kernel_rfl) (fun _ _ _ h => h) (Or.inl ⟨rfl, ?c2114⟩) hH ?r2114
            case c2114 => (intro w' _; go_simp; (try with_reducible rfl))
            try simp only [Act.put, List.setIfInBounds_toArray, List.set_cons_zero, List.set_cons_succ]
            refine wpAnyH_take (i := 17) (oi := ⟨some 161, _, _, _, _, _⟩) (v := ?v2115) rfl (by kernel_rfl) (by kernel_rfl) (by kernel_rfl) (fun _ _ _ h => h) (Or.inl ⟨rfl, ?c2115⟩) hH ?r2115
            case c2115 => (intro w' _; go_simp; (try with_reducible rfl))
            try simp only [Act.put, List.setIfInBounds_toArray, List.set_cons_zero, List.set_cons_succ]
            refine wpAnyH_take (i := 18) (oi := ⟨some 162, _, _, _, _, _⟩) (v := ?v2116) rfl (by kernel_rfl) (by kernel_rfl) (by kernel_rfl) (fun _ _ _ h => h) (Or.inl ⟨rfl, ?c2116⟩) hH ?r2116
            case c2116 => (intro w' _; go_simp; (try with_reducible rfl))
            try simp only [Act.put, List.setIfInBounds_toArray, List.set_cons_zero, List.set_cons_succ]
            refine wpAnyH_take (i := 19) (oi := ⟨some 163, _, _, _, _, _⟩) (v := ?v2117) rfl (by kernel_rfl) (by kernel_rfl) (by kernel_rfl) (fun _ _ _ h => h) (Or.inl ⟨rfl, ?c2117⟩) hH ?r2117
            case c2117 => (intro w' hS; have z2 := hS.1.cell 2 _ rfl; have zb := hS.2; go_simp; (try with_reducible rfl))
            try simp only [Act.put, List.setIfInBounds_toArray, List.set_cons_zero, List.set_cons_succ]
            refine wpAnyH_take (i := 20) (oi := ⟨some 164, _, _, _, _, _⟩) (v := ?v2118) rfl (by kernel_rfl) (by kernel_rfl) (by kernel_rfl) (fun _ _ _ h => h) (Or.inl ⟨rfl, ?c2118⟩) hH ?r2118
            case c2118 => (intro w' _; go_simp; (try with_reducible rfl))
            try simp only [Act.put, List.setIfInBounds_toArray, List.set_cons_zero, List.set_cons_succ]
            refine wpAnyH_ready (rs := [15]) (by kernel_rfl) (by simp) (AllReadyH.cons rfl (fun K hK => ?_) (AllReadyH.nil))
            go_simp
            go_at_call 24
            refine HWO.out.mono ?_
            rintro e w7 ⟨rfl, rfl⟩
            refine hK.out _ _ (hH) (fun hH => ?_)
            clear hK K
            try simp only [Act.put, List.setIfInBounds_toArray, List.set_cons_zero, List.set_cons_succ]
            refine wpAnyH_take (i := 21) (oi := ⟨some 165, _, _, _, _, _⟩) (v := ?v2119) rfl (by kernel_rfl) (by kernel_rfl) (by kernel_rfl) (fun _ _ _ h => h) (Or.inl ⟨rfl, ?c2119⟩) hH ?r2119
            case c2119 => (intro w' _; go_simp; (try simp only [bne_self_eq_false]); (try with_reducible rfl))
            try simp only [Act.put, List.setIfInBounds_toArray, List.set_cons_zero, List.set_cons_succ]
            refine wpAnyH_take (i := 22) (oi := ⟨some 166, _, _, _, _, _⟩) (v := ?v2120) rfl (by kernel_rfl) (by kernel_rfl) (by kernel_rfl) (fun _ _ _ h => h) (Or.inl ⟨rfl, ?c2120⟩) hH ?r2120
            case c2120 => (intro w' _; go_simp; (try with_reducible rfl))
            try simp only [Act.put, List.setIfInBounds_toArray, List.set_cons_zero, List.set_cons_succ]
            refine wpAnyH_done (by kernel_rfl) ?_ _
            clear hH
            go_wp2_with fail
            go_roundw
            case rel => exact ⟨i + 1, O1p, O2p, swapS s t a o n, by go_num, by omega, by omega, HT7, HN7⟩
            case measure => simp [RowKit.intOf]; omega
        · as_aux_lemma =>
            go_wp2_with fail
            rw [HGU.out.2, HGU.out.1]
            refine wp_region_held_drew (S := fun w' => Blk w' g #[.int .u8 k, .int .i64 t, .int .i64 a, .int .u64 o, .int .u64 n] 29) (by kernel_rfl) (HXD.out) (fun hH => ?_)
            refine wpAnyH_take (i := 0) (oi := ⟨some 88, _, _, _, _, _⟩) (v := ?v3001) rfl (by kernel_rfl) (by kernel_rfl) (by kernel_rfl) (fun _ _ _ h => h) (Or.inl ⟨rfl, ?c3001⟩) hH ?r3001
            case c3001 => (intro w' _; go_simp; (try with_reducible rfl))
            try simp only [Act.put, List.setIfInBounds_toArray, List.set_cons_zero, List.set_cons_succ]
            refine wpAnyH_take (i := 1) (oi := ⟨some 89, _, _, _, _, _⟩) (v := ?v3002) rfl (by kernel_rfl) (by kernel_rfl) (by kernel_rfl) (fun _ _ _ h => h) (Or.inl ⟨rfl, ?c3002⟩) hH ?r3002
            case c3002 => (intro w' _; go_simp; (try with_reducible rfl))
            try simp only [Act.put, List.setIfInBounds_toArray, List.set_cons_zero, List.set_cons_succ]
            refine wpAnyH_take (i := 2) (oi := ⟨some 90, _, _, _, _, _⟩) (v := ?v3003) rfl (by kernel_rfl) (by kernel_rfl) (by kernel_rfl) (fun _ _ _ h => h) (Or.inl ⟨rfl, ?c3003⟩) hH ?r3003
            case c3003 => (intro w' hS; have z0 := hS.cell 0 _ rfl; have z1 := hS.cell 1 _ rfl; have z2 := hS.cell 2 _ rfl; have z3 := hS.cell 3 _ rfl; have z4 := hS.cell 4 _ rfl; go_simp; (try with_reducible rfl))
            try simp only [Act.put, List.setIfInBounds_toArray, List.set_cons_zero, List.set_cons_succ]
            refine wpAnyH_take (i := 3) (oi := ⟨some 91, _, _, _, _, _⟩) (v := ?v3004) rfl (by kernel_rfl) (by kernel_rfl) (by kernel_rfl) (fun _ _ _ h => h) (Or.inl ⟨rfl, ?c3004⟩) hH ?r3004
            case c3004 => (intro w' _; go_simp; (try with_reducible rfl))
            try simp only [Act.put, List.setIfInBounds_toArray, List.set_cons_zero, List.set_cons_succ]
            refine wpAnyH_take (i := 4) (oi := ⟨some 92, _, _, _, _, _⟩) (v := ?v3005) rfl (by kernel_rfl) (by kernel_rfl) (by kernel_rfl) (fun _ _ _ h => h) (Or.inl ⟨rfl, ?c3005⟩) hH ?r3005
            case c3005 => (intro w' hS; have z0 := hS.cell 0 _ rfl; have z1 := hS.cell 1 _ rfl; have z2 := hS.cell 2 _ rfl; have z3 := hS.cell 3 _ rfl; have z4 := hS.cell 4 _ rfl; go_simp; (try with_reducible rfl))
            try simp only [Act.put, List.setIfInBounds_toArray, List.set_cons_zero, List.set_cons_succ]
            refine wpAnyH_take (i := 6) (oi := ⟨some 94, _, _, _, _, _⟩) (v := ?v3006) rfl (by kernel_rfl) (by kernel_rfl) (by kernel_rfl) (fun _ _ _ h => h) (Or.inl ⟨rfl, ?c3006⟩) hH ?r3006
            case c3006 => (intro w' _; go_simp; (try with_reducible rfl))
            try simp only [Act.put, List.setIfInBounds_toArray, List.set_cons_zero, List.set_cons_succ]
            refine wpAnyH_take (i := 7) (oi := ⟨some 95, _, _, _, _, _⟩) (v := ?v3007) rfl (by kernel_rfl) (by kernel_rfl) (by kernel_rfl) (fun _ _ _ h => h) (Or.inl ⟨rfl, ?c3007⟩) hH ?r3007
            case c3007 => (intro w' _; go_simp; (try with_reducible rfl))
            try simp only [Act.put, List.setIfInBounds_toArray, List.set_cons_zero, List.set_cons_succ]
            refine wpAnyH_take (i := 8) (oi := ⟨some 96, _, _, _, _, _⟩) (v := ?v3008) rfl (by kernel_rfl) (by kernel_rfl) (by kernel_rfl) (fun _ _ _ h => h) (Or.inl ⟨rfl, ?c3008⟩) hH ?r3008
            case c3008 => (intro w' hS; have z0 := hS.cell 0 _ rfl; have z1 := hS.cell 1 _ rfl; have z2 := hS.cell 2 _ rfl; have z3 := hS.cell 3 _ rfl; have z4 := hS.cell 4 _ rfl; go_simp; (try with_reducible rfl))
            try simp only [Act.put, List.setIfInBounds_toArray, List.set_cons_zero, List.set_cons_succ]
            refine wpAnyH_take (i := 9) (oi := ⟨some 97, _, _, _, _, _⟩) (v := ?v3009) rfl (by kernel_rfl) (by kernel_rfl) (by kernel_rfl) (fun _ _ _ h => h) (Or.inl ⟨rfl, ?c3009⟩) hH ?r3009
            case c3009 => (intro w' _; go_simp; (try with_reducible rfl))
            try simp only [Act.put, List.setIfInBounds_toArray, List.set_cons_zero, List.set_cons_succ]
            refine wpAnyH_take (i := 10) (oi := ⟨some 98, _, _, _, _, _⟩) (v := ?v3010) rfl (by kernel_rfl) (by kernel_rfl) (by kernel_rfl) (fun _ _ _ h => h) (Or.inl ⟨rfl, ?c3010⟩) hH ?r3010
            case c3010 => (intro w' hS; have z0 := hS.cell 0 _ rfl; have z1 := hS.cell 1 _ rfl; have z2 := hS.cell 2 _ rfl; have z3 := hS.cell 3 _ rfl; have z4 := hS.cell 4 _ rfl; go_simp; (try with_reducible rfl))
            try simp only [Act.put, List.setIfInBounds_toArray, List.set_cons_zero, List.set_cons_succ]
            refine wpAnyH_ready (rs := [5]) (by kernel_rfl) (by simp) (AllReadyH.cons rfl (fun K hK => ?_) (AllReadyH.nil))
            go_simp
            go_at_call 15
            refine (lock_any HTD.out.mem t a HT0.out.2 (by have := HN.out.2; omega)).mono ?_
            intro e w5 hd
            obtain ⟨O1p, rfl, hh, ho⟩ := HTD.out.does hd
            have HT5 := Lib.hid hh
            refine hK.out _ _ (Blk.only hH ho (fun e => HG1.out _ e rfl)) (fun hH => ?_)
            clear hK K
            clear hd hh ho
            try simp only [Act.put, List.setIfInBounds_toArray, List.set_cons_zero, List.set_cons_succ]
            refine wpAnyH_ready (rs := [11]) (by kernel_rfl) (by simp) (AllReadyH.cons rfl (fun K hK => ?_) (AllReadyH.nil))
            go_simp
            go_at_call 16
            refine (refLock_any HT5.out.ref t a HT0.out.2 (by have := HN.out.2; omega)).mono ?_
            intro e w6 hd
            obtain ⟨O2p, rfl, hh, ho⟩ := HT5.out.rdoes hd
            have HT6 := Lib.hid hh
            refine hK.out _ _ (Blk.only hH ho (fun e => HG2.out _ e rfl)) (fun hH => ?_)
            clear hK K
            clear hd hh ho HT5
            try simp only [Act.put, List.setIfInBounds_toArray, List.set_cons_zero, List.set_cons_succ]
            refine wpAnyH_take (i := 12) (oi := ⟨some 100, _, _, _, _, _⟩) (v := ?v3011) rfl (by kernel_rfl) (by kernel_rfl) (by kernel_rfl) (fun _ _ _ h => h) (Or.inl ⟨rfl, ?c3011⟩) hH ?r3011
            case c3011 => (intro w' _; go_simp; (try with_reducible rfl))
            try simp only [Act.put, List.setIfInBounds_toArray, List.set_cons_zero, List.set_cons_succ]
            refine wpAnyH_take (i := 13) (oi := ⟨some 11, _, _, _, _, _⟩) (v := ?v3012) rfl (by kernel_rfl) (by kernel_rfl) (by kernel_rfl) (fun _ _ _ h => h) (Or.inl ⟨rfl, ?c3012⟩) hH ?r3012
            case c3012 => (intro w' _; go_simp; (try with_reducible rfl))
            try simp only [Act.put, List.setIfInBounds_toArray, List.set_cons_zero, List.set_cons_succ]
            refine wpAnyH_done (by kernel_rfl) ?_ _
            have HX6 := Lib.hid hH
            clear hH
            have HN7 : Hid ((lockS s t a).ws.length ≤ 8192 + (i + 1) ∧ (lockS s t a).ls.length ≤ i + 1) := lock_lens s t a HN.out
            go_wp2_with fail
            have HT7 := Lib.hid (HT6.out.next (Below.refl _ _).drew)
            have HX7 := Lib.hid (HX6.out.drew)
            obtain ⟨⟨vw, vh, vl, hmm⟩, -⟩ := HT7.out.ref
            obtain ⟨Aw, cw, rfl, -, -⟩ := hmm.len0
            have b0 := hmm.blk.cell 0 _ rfl
            have HHO := Lib.hid (holder_any HT7.out.mem a)
            have HRO := Lib.hid (refHolder_any HT7.out.ref a)
            have HWO := Lib.hid (words_any HT7.out.mem)
            clear hmm
            generalize holdV (lockS s t a) a = yv at HHO HRO
            obtain ⟨Nw, hNw⟩ : ∃ N, (lockS s t a).ws.length = N := ⟨_, rfl⟩
            rw [hNw] at HWO b0
            clear hNw HT6 HX6
            refine wp_region_held_drew (S := fun w' => Blk w' g #[.int .u8 k, .int .i64 t, .int .i64 a, .int .u64 o, .int .u64 n] 29 ∧ w'.cell? ⟨B2, 0, none⟩ = some (.slice Aw Nw cw)) (by kernel_rfl) (⟨HX7.out, b0⟩) (fun hH => ?_)
            refine wpAnyH_take (i := 0) (oi := ⟨some 144, _, _, _, _, _⟩) (v := ?v2701) rfl (by kernel_rfl) (by kernel_rfl) (by kernel_rfl) (fun _ _ _ h => h) (Or.inl ⟨rfl, ?c2701⟩) hH ?r2701
            case c2701 => (intro w' _; go_simp; (try with_reducible rfl))
            try simp only [Act.put, List.setIfInBounds_toArray, List.set_cons_zero, List.set_cons_succ]
            refine wpAnyH_take (i := 1) (oi := ⟨some 145, _, _, _, _, _⟩) (v := ?v2702) rfl (by kernel_rfl) (by kernel_rfl) (by kernel_rfl) (fun _ _ _ h => h) (Or.inl ⟨rfl, ?c2702⟩) hH ?r2702
            case c2702 => (intro w' _; go_simp; (try with_reducible rfl))
            try simp only [Act.put, List.setIfInBounds_toArray, List.set_cons_zero, List.set_cons_succ]
            refine wpAnyH_take (i := 2) (oi := ⟨some 146, _, _, _, _, _⟩) (v := ?v2703) rfl (by kernel_rfl) (by kernel_rfl) (by kernel_rfl) (fun _ _ _ h => h) (Or.inl ⟨rfl, ?c2703⟩) hH ?r2703
            case c2703 => (intro w' _; go_simp; (try with_reducible rfl))
            try simp only [Act.put, List.setIfInBounds_toArray, List.set_cons_zero, List.set_cons_succ]
            refine wpAnyH_take (i := 3) (oi := ⟨some 147, _, _, _, _, _⟩) (v := ?v2704) rfl (by kernel_rfl) (by kernel_rfl) (by kernel_rfl) (fun _ _ _ h => h) (Or.inl ⟨rfl, ?c2704⟩) hH ?r2704
            case c2704 => (intro w' _; go_simp; (try with_reducible rfl))
            try simp only [Act.put, List.setIfInBounds_toArray, List.set_cons_zero, List.set_cons_succ]
            refine wpAnyH_take (i := 4) (oi := ⟨some 148, _, _, _, _, _⟩) (v := ?v2705) rfl (by kernel_rfl) (by kernel_rfl) (by kernel_rfl) (fun _ _ _ h => h) (Or.inl ⟨rfl, ?c2705⟩) hH ?r2705
            case c2705 => (intro w' _; go_simp; (try with_reducible rfl))
            try simp only [Act.put, List.setIfInBounds_toArray, List.set_cons_zero, List.set_cons_succ]
            refine wpAnyH_take (i := 5) (oi := ⟨some 149, _, _, _, _, _⟩) (v := ?v2706) rfl (by kernel_rfl) (by kernel_rfl) (by kernel_rfl) (fun _ _ _ h => h) (Or.inl ⟨rfl, ?c2706⟩) hH ?r2706
            case c2706 => (intro w' hS; have z2 := hS.1.cell 2 _ rfl; have zb := hS.2; go_simp; (try with_reducible rfl))
            try simp only [Act.put, List.setIfInBounds_toArray, List.set_cons_zero, List.set_cons_succ]
            refine wpAnyH_take (i := 7) (oi := ⟨some 151, _, _, _, _, _⟩) (v := ?v2707) rfl (by kernel_rfl) (by kernel_rfl) (by kernel_rfl) (fun _ _ _ h => h) (Or.inl ⟨rfl, ?c2707⟩) hH ?r2707
            case c2707 => (intro w' _; go_simp; (try with_reducible rfl))
            try simp only [Act.put, List.setIfInBounds_toArray, List.set_cons_zero, List.set_cons_succ]
            refine wpAnyH_take (i := 8) (oi := ⟨some 152, _, _, _, _, _⟩) (v := ?v2708) rfl (by kernel_rfl) (by kernel_rfl) (by kernel_rfl) (fun _ _ _ h => h) (Or.inl ⟨rfl, ?c2708⟩) hH ?r2708
            case c2708 => (intro w' _; go_simp; (try with_reducible rfl))
            try simp only [Act.put, List.setIfInBounds_toArray, List.set_cons_zero, List.set_cons_succ]
            refine wpAnyH_take (i := 9) (oi := ⟨some 153, _, _, _, _, _⟩) (v := ?v2709) rfl (by kernel_rfl) (by kernel_rfl) (by kernel_rfl) (fun _ _ _ h => h) (Or.inl ⟨rfl, ?c2709⟩) hH ?r2709
            case c2709 => (intro w' hS; have z2 := hS.1.cell 2 _ rfl; have zb := hS.2; go_simp; (try with_reducible rfl))
            try simp only [Act.put, List.setIfInBounds_toArray, List.set_cons_zero, List.set_cons_succ]
            refine wpAnyH_ready (rs := [6]) (by kernel_rfl) (by simp) (AllReadyH.cons rfl (fun K hK => ?_) (AllReadyH.nil))
            go_simp
            go_at_call 22
            refine HHO.out.mono ?_
            rintro e w7 ⟨rfl, rfl⟩
            refine hK.out _ _ (hH) (fun hH => ?_)
            clear hK K
            try simp only [Act.put, List.setIfInBounds_toArray, List.set_cons_zero, List.set_cons_succ]
            refine wpAnyH_ready (rs := [10]) (by kernel_rfl) (by simp) (AllReadyH.cons rfl (fun K hK => ?_) (AllReadyH.nil))
            go_simp
            go_at_call 23
            refine HRO.out.mono ?_
            rintro e w7 ⟨rfl, rfl⟩
            refine hK.out _ _ (hH) (fun hH => ?_)
            clear hK K
            try simp only [Act.put, List.setIfInBounds_toArray, List.set_cons_zero, List.set_cons_succ]
            refine wpAnyH_take (i := 11) (oi := ⟨some 155, _, _, _, _, _⟩) (v := ?v2710) rfl (by kernel_rfl) (by kernel_rfl) (by kernel_rfl) (fun _ _ _ h => h) (Or.inl ⟨rfl, ?c2710⟩) hH ?r2710
            case c2710 => (intro w' _; go_simp; (try simp only [bne_self_eq_false]); (try with_reducible rfl))
            try simp only [Act.put, List.setIfInBounds_toArray, List.set_cons_zero, List.set_cons_succ]
            refine wpAnyH_take (i := 12) (oi := ⟨some 156, _, _, _, _, _⟩) (v := ?v2711) rfl (by kernel_rfl) (by kernel_rfl) (by kernel_rfl) (fun _ _ _ h => h) (Or.inl ⟨rfl, ?c2711⟩) hH ?r2711
            case c2711 => (intro w' _; go_simp; (try with_reducible rfl))
            try simp only [Act.put, List.setIfInBounds_toArray, List.set_cons_zero, List.set_cons_succ]
            refine wpAnyH_take (i := 13) (oi := ⟨some 157, _, _, _, _, _⟩) (v := ?v2712) rfl (by kernel_rfl) (by kernel_rfl) (by kernel_rfl) (fun _ _ _ h => h) (Or.inl ⟨rfl, ?c2712⟩) hH ?r2712
            case c2712 => (intro w' _; go_simp; (try with_reducible rfl))
            try simp only [Act.put, List.setIfInBounds_toArray, List.set_cons_zero, List.set_cons_succ]
            refine wpAnyH_take (i := 14) (oi := ⟨some 158, _, _, _, _, _⟩) (v := ?v2713) rfl (by kernel_rfl) (by kernel_rfl) (by kernel_rfl) (fun _ _ _ h => h) (Or.inl ⟨rfl, ?c2713⟩) hH ?r2713
            case c2713 => (intro w' _; go_simp; (try with_reducible rfl))
            try simp only [Act.put, List.setIfInBounds_toArray, List.set_cons_zero, List.set_cons_succ]
            refine wpAnyH_take (i := 16) (oi := ⟨some 160, _, _, _, _, _⟩) (v := ?v2714) rfl (by kernel_rfl) (by kernel_rfl) (by kernel_rfl) (fun _ _ _ h => h) (Or.inl ⟨rfl, ?c2714⟩) hH ?r2714
            case c2714 => (intro w' _; go_simp; (try with_reducible rfl))
            try simp only [Act.put, List.setIfInBounds_toArray, List.set_cons_zero, List.set_cons_succ]
            refine wpAnyH_take (i := 17) (oi := ⟨some 161, _, _, _, _, _⟩) (v := ?v2715) rfl (by kernel_rfl) (by kernel_rfl) (by kernel_rfl) (fun _ _ _ h => h) (Or.inl ⟨rfl, ?c2715⟩) hH ?r2715
            case c2715 => (intro w' _; go_simp; (try with_reducible rfl))
            try simp only [Act.put, List.setIfInBounds_toArray, List.set_cons_zero, List.set_cons_succ]
            refine wpAnyH_take (i := 18) (oi := ⟨some 162, _, _, _, _, _⟩) (v := ?v2716) rfl (by kernel_rfl) (by kernel_rfl) (by kernel_rfl) (fun _ _ _ h => h) (Or.inl ⟨rfl, ?c2716⟩) hH ?r2716
            case c2716 => (intro w' _; go_simp; (try with_reducible rfl))
            try simp only [Act.put, List.setIfInBounds_toArray, List.set_cons_zero, List.set_cons_succ]
            refine wpAnyH_take (i := 19) (oi := ⟨some 163, _, _, _, _, _⟩) (v := ?v2717) rfl (by kernel_rfl) (by kernel_rfl) (by kernel_rfl) (fun _ _ _ h => h) (Or.inl ⟨rfl, ?c2717⟩) hH ?r2717
            case c2717 => (intro w' hS; have z2 := hS.1.cell 2 _ rfl; have zb := hS.2; go_simp; (try with_reducible rfl))
            try simp only [Act.put, List.setIfInBounds_toArray, List.set_cons_zero, List.set_cons_succ]
            refine wpAnyH_take (i := 20) (oi := ⟨some 164, _, _, _, _, _⟩) (v := ?v2718) rfl (by kernel_rfl) (by kernel_rfl) (by kernel_rfl) (fun _ _ _ h => h) (Or.inl ⟨rfl, ?c2718⟩) hH ?r2718
            case c2718 => (intro w' _; go_simp; (try with_reducible rfl))
            try simp only [Act.put, List.setIfInBounds_toArray, List.set_cons_zero, List.set_cons_succ]
            refine wpAnyH_ready (rs := [15]) (by kernel_rfl) (by simp) (AllReadyH.cons rfl (fun K hK => ?_) (AllReadyH.nil))
            go_simp
            go_at_call 24
            refine HWO.out.mono ?_
            rintro e w7 ⟨rfl, rfl⟩
            refine hK.out _ _ (hH) (fun hH => ?_)
            clear hK K
            try simp only [Act.put, List.setIfInBounds_toArray, List.set_cons_zero, List.set_cons_succ]
            refine wpAnyH_take (i := 21) (oi := ⟨some 165, _, _, _, _, _⟩) (v := ?v2719) rfl (by kernel_rfl) (by kernel_rfl) (by kernel_rfl) (fun _ _ _ h => h) (Or.inl ⟨rfl, ?c2719⟩) hH ?r2719
            case c2719 => (intro w' _; go_simp; (try simp only [bne_self_eq_false]); (try with_reducible rfl))
            try simp only [Act.put, List.setIfInBounds_toArray, List.set_cons_zero, List.set_cons_succ]
            refine wpAnyH_take (i := 22) (oi := ⟨some 166, _, _, _, _, _⟩) (v := ?v2720) rfl (by kernel_rfl) (by kernel_rfl) (by kernel_rfl) (fun _ _ _ h => h) (Or.inl ⟨rfl, ?c2720⟩) hH ?r2720
            case c2720 => (intro w' _; go_simp; (try with_reducible rfl))
            try simp only [Act.put, List.setIfInBounds_toArray, List.set_cons_zero, List.set_cons_succ]
            refine wpAnyH_done (by kernel_rfl) ?_ _
            clear hH
            go_wp2_with fail
            go_roundw
            case rel => exact ⟨i + 1, O1p, O2p, lockS s t a, by go_num, by omega, by omega, HT7, HN7⟩
            case measure => simp [RowKit.intOf]; omega
        · as_aux_lemma =>
            go_wp2_with fail
            rw [HGU.out.2, HGU.out.1]
            refine wp_region_held_drew (S := fun w' => Blk w' g #[.int .u8 k, .int .i64 t, .int .i64 a, .int .u64 o, .int .u64 n] 29) (by kernel_rfl) (HXD.out) (fun hH => ?_)
            refine wpAnyH_take (i := 0) (oi := ⟨some 103, _, _, _, _, _⟩) (v := ?v3601) rfl (by kernel_rfl) (by kernel_rfl) (by kernel_rfl) (fun _ _ _ h => h) (Or.inl ⟨rfl, ?c3601⟩) hH ?r3601
            case c3601 => (intro w' _; go_simp; (try with_reducible rfl))
            try simp only [Act.put, List.setIfInBounds_toArray, List.set_cons_zero, List.set_cons_succ]
            refine wpAnyH_take (i := 1) (oi := ⟨some 104, _, _, _, _, _⟩) (v := ?v3602) rfl (by kernel_rfl) (by kernel_rfl) (by kernel_rfl) (fun _ _ _ h => h) (Or.inl ⟨rfl, ?c3602⟩) hH ?r3602
            case c3602 => (intro w' _; go_simp; (try with_reducible rfl))
            try simp only [Act.put, List.setIfInBounds_toArray, List.set_cons_zero, List.set_cons_succ]
            refine wpAnyH_take (i := 2) (oi := ⟨some 105, _, _, _, _, _⟩) (v := ?v3603) rfl (by kernel_rfl) (by kernel_rfl) (by kernel_rfl) (fun _ _ _ h => h) (Or.inl ⟨rfl, ?c3603⟩) hH ?r3603
            case c3603 => (intro w' hS; have z0 := hS.cell 0 _ rfl; have z1 := hS.cell 1 _ rfl; have z2 := hS.cell 2 _ rfl; have z3 := hS.cell 3 _ rfl; have z4 := hS.cell 4 _ rfl; go_simp; (try with_reducible rfl))
            try simp only [Act.put, List.setIfInBounds_toArray, List.set_cons_zero, List.set_cons_succ]
            refine wpAnyH_take (i := 3) (oi := ⟨some 106, _, _, _, _, _⟩) (v := ?v3604) rfl (by kernel_rfl) (by kernel_rfl) (by kernel_rfl) (fun _ _ _ h => h) (Or.inl ⟨rfl, ?c3604⟩) hH ?r3604
            case c3604 => (intro w' _; go_simp; (try with_reducible rfl))
            try simp only [Act.put, List.setIfInBounds_toArray, List.set_cons_zero, List.set_cons_succ]
            refine wpAnyH_take (i := 4) (oi := ⟨some 107, _, _, _, _, _⟩) (v := ?v3605) rfl (by kernel_rfl) (by kernel_rfl) (by kernel_rfl) (fun _ _ _ h => h) (Or.inl ⟨rfl, ?c3605⟩) hH ?r3605
            case c3605 => (intro w' hS; have z0 := hS.cell 0 _ rfl; have z1 := hS.cell 1 _ rfl; have z2 := hS.cell 2 _ rfl; have z3 := hS.cell 3 _ rfl; have z4 := hS.cell 4 _ rfl; go_simp; (try with_reducible rfl))
            try simp only [Act.put, List.setIfInBounds_toArray, List.set_cons_zero, List.set_cons_succ]
            refine wpAnyH_take (i := 6) (oi := ⟨some 109, _, _, _, _, _⟩) (v := ?v3606) rfl (by kernel_rfl) (by kernel_rfl) (by kernel_rfl) (fun _ _ _ h => h) (Or.inl ⟨rfl, ?c3606⟩) hH ?r3606
            case c3606 => (intro w' _; go_simp; (try with_reducible rfl))
            try simp only [Act.put, List.setIfInBounds_toArray, List.set_cons_zero, List.set_cons_succ]
            refine wpAnyH_take (i := 7) (oi := ⟨some 110, _, _, _, _, _⟩) (v := ?v3607) rfl (by kernel_rfl) (by kernel_rfl) (by kernel_rfl) (fun _ _ _ h => h) (Or.inl ⟨rfl, ?c3607⟩) hH ?r3607
            case c3607 => (intro w' _; go_simp; (try with_reducible rfl))
            try simp only [Act.put, List.setIfInBounds_toArray, List.set_cons_zero, List.set_cons_succ]
            refine wpAnyH_take (i := 8) (oi := ⟨some 111, _, _, _, _, _⟩) (v := ?v3608) rfl (by kernel_rfl) (by kernel_rfl) (by kernel_rfl) (fun _ _ _ h => h) (Or.inl ⟨rfl, ?c3608⟩) hH ?r3608
            case c3608 => (intro w' hS; have z0 := hS.cell 0 _ rfl; have z1 := hS.cell 1 _ rfl; have z2 := hS.cell 2 _ rfl; have z3 := hS.cell 3 _ rfl; have z4 := hS.cell 4 _ rfl; go_simp; (try with_reducible rfl))
            try simp only [Act.put, List.setIfInBounds_toArray, List.set_cons_zero, List.set_cons_succ]
            refine wpAnyH_take (i := 9) (oi := ⟨some 112, _, _, _, _, _⟩) (v := ?v3609) rfl (by kernel_rfl) (by kernel_rfl) (by kernel_rfl) (fun _ _ _ h => h) (Or.inl ⟨rfl, ?c3609⟩) hH ?r3609
            case c3609 => (intro w' _; go_simp; (try with_reducible rfl))
            try simp only [Act.put, List.setIfInBounds_toArray, List.set_cons_zero, List.set_cons_succ]
            refine wpAnyH_take (i := 10) (oi := ⟨some 113, _, _, _, _, _⟩) (v := ?v3610) rfl (by kernel_rfl) (by kernel_rfl) (by kernel_rfl) (fun _ _ _ h => h) (Or.inl ⟨rfl, ?c3610⟩) hH ?r3610
            case c3610 => (intro w' hS; have z0 := hS.cell 0 _ rfl; have z1 := hS.cell 1 _ rfl; have z2 := hS.cell 2 _ rfl; have z3 := hS.cell 3 _ rfl; have z4 := hS.cell 4 _ rfl; go_simp; (try with_reducible rfl))
            try simp only [Act.put, List.setIfInBounds_toArray, List.set_cons_zero, List.set_cons_succ]
            refine wpAnyH_ready (rs := [5]) (by kernel_rfl) (by simp) (AllReadyH.cons rfl (fun K hK => ?_) (AllReadyH.nil))
            go_simp
            go_at_call 17
            refine (unlock_any HTD.out.mem t a (by have := HN.out.2; omega)).mono ?_
            intro e w5 hd
            obtain ⟨O1p, rfl, hh, ho⟩ := HTD.out.does hd
            have HT5 := Lib.hid hh
            refine hK.out _ _ (Blk.only hH ho (fun e => HG1.out _ e rfl)) (fun hH => ?_)
            clear hK K
            clear hd hh ho
            try simp only [Act.put, List.setIfInBounds_toArray, List.set_cons_zero, List.set_cons_succ]
            refine wpAnyH_ready (rs := [11]) (by kernel_rfl) (by simp) (AllReadyH.cons rfl (fun K hK => ?_) (AllReadyH.nil))
            go_simp
            go_at_call 18
            refine (refUnlock_any HT5.out.ref t a HT0.out.2 (by have := HN.out.2; omega)).mono ?_
            intro e w6 hd
            obtain ⟨O2p, rfl, hh, ho⟩ := HT5.out.rdoes hd
            have HT6 := Lib.hid hh
            refine hK.out _ _ (Blk.only hH ho (fun e => HG2.out _ e rfl)) (fun hH => ?_)
            clear hK K
            clear hd hh ho HT5
            try simp only [Act.put, List.setIfInBounds_toArray, List.set_cons_zero, List.set_cons_succ]
            refine wpAnyH_take (i := 12) (oi := ⟨some 115, _, _, _, _, _⟩) (v := ?v3611) rfl (by kernel_rfl) (by kernel_rfl) (by kernel_rfl) (fun _ _ _ h => h) (Or.inl ⟨rfl, ?c3611⟩) hH ?r3611
            case c3611 => (intro w' _; go_simp; (try with_reducible rfl))
            try simp only [Act.put, List.setIfInBounds_toArray, List.set_cons_zero, List.set_cons_succ]
            refine wpAnyH_take (i := 13) (oi := ⟨some 11, _, _, _, _, _⟩) (v := ?v3612) rfl (by kernel_rfl) (by kernel_rfl) (by kernel_rfl) (fun _ _ _ h => h) (Or.inl ⟨rfl, ?c3612⟩) hH ?r3612
            case c3612 => (intro w' _; go_simp; (try with_reducible rfl))
            try simp only [Act.put, List.setIfInBounds_toArray, List.set_cons_zero, List.set_cons_succ]
            refine wpAnyH_done (by kernel_rfl) ?_ _
            have HX6 := Lib.hid hH
            clear hH
            have HN7 : Hid ((unlockS s t a).ws.length ≤ 8192 + (i + 1) ∧ (unlockS s t a).ls.length ≤ i + 1) := unlock_lens s t a HN.out
            go_wp2_with fail
            have HT7 := Lib.hid (HT6.out.next (Below.refl _ _).drew)
            have HX7 := Lib.hid (HX6.out.drew)
            obtain ⟨⟨vw, vh, vl, hmm⟩, -⟩ := HT7.out.ref
            obtain ⟨Aw, cw, rfl, -, -⟩ := hmm.len0
            have b0 := hmm.blk.cell 0 _ rfl
            have HHO := Lib.hid (holder_any HT7.out.mem a)
            have HRO := Lib.hid (refHolder_any HT7.out.ref a)
            have HWO := Lib.hid (words_any HT7.out.mem)
            clear hmm
            generalize holdV (unlockS s t a) a = yv at HHO HRO
            obtain ⟨Nw, hNw⟩ : ∃ N, (unlockS s t a).ws.length = N := ⟨_, rfl⟩
            rw [hNw] at HWO b0
            clear hNw HT6 HX6
            refine wp_region_held_drew (S := fun w' => Blk w' g #[.int .u8 k, .int .i64 t, .int .i64 a, .int .u64 o, .int .u64 n] 29 ∧ w'.cell? ⟨B2, 0, none⟩ = some (.slice Aw Nw cw)) (by kernel_rfl) (⟨HX7.out, b0⟩) (fun hH => ?_)
            refine wpAnyH_take (i := 0) (oi := ⟨some 144, _, _, _, _, _⟩) (v := ?v3301) rfl (by kernel_rfl) (by kernel_rfl) (by kernel_rfl) (fun _ _ _ h => h) (Or.inl ⟨rfl, ?c3301⟩) hH ?r3301
            case c3301 => (intro w' _; go_simp; (try with_reducible rfl))
            try simp only [Act.put, List.setIfInBounds_toArray, List.set_cons_zero, List.set_cons_succ]
            refine wpAnyH_take (i := 1) (oi := ⟨some 145, _, _, _, _, _⟩) (v := ?v3302) rfl (by kernel_rfl) (by kernel_rfl) (by kernel_rfl) (fun _ _ _ h => h) (Or.inl ⟨rfl, ?c3302⟩) hH ?r3302
            case c3302 => (intro w' _; go_simp; (try with_reducible rfl))
            try simp only [Act.put, List.setIfInBounds_toArray, List.set_cons_zero, List.set_cons_succ]
            refine wpAnyH_take (i := 2) (oi := ⟨some 146, _, _, _, _, _⟩) (v := ?v3303) rfl (by kernel_rfl) (by kernel_rfl) (by kernel_rfl) (fun _ _ _ h => h) (Or.inl ⟨rfl, ?c3303⟩) hH ?r3303
            case c3303 => (intro w' _; go_simp; (try with_reducible rfl))
            try simp only [Act.put, List.setIfInBounds_toArray, List.set_cons_zero, List.set_cons_succ]
            refine wpAnyH_take (i := 3) (oi := ⟨some 147, _, _, _, _, _⟩) (v := ?v3304) rfl (by kernel_rfl) (by kernel_rfl) (by kernel_rfl) (fun _ _ _ h => h) (Or.inl ⟨rfl, ?c3304⟩) hH ?r3304
            case c3304 => (intro w' _; go_simp; (try with_reducible rfl))
            try simp only [Act.put, List.setIfInBounds_toArray, List.set_cons_zero, List.set_cons_succ]
            refine wpAnyH_take (i := 4) (oi := ⟨some 148, _, _, _, _, _⟩) (v := ?v3305) rfl (by kernel_rfl) (by kernel_rfl) (by kernel_rfl) (fun _ _ _ h => h) (Or.inl ⟨rfl, ?c3305⟩) hH ?r3305
            case c3305 => (intro w' _; go_simp; (try with_reducible rfl))
            try simp only [Act.put, List.setIfInBounds_toArray, List.set_cons_zero, List.set_cons_succ]
            refine wpAnyH_take (i := 5) (oi := ⟨some 149, _, _, _, _, _⟩) (v := ?v3306) rfl (by kernel_rfl) (by kernel_rfl) (by kernel_rfl) (fun _ _ _ h => h) (Or.inl ⟨rfl, ?c3306⟩) hH ?r3306
            case c3306 => (intro w' hS; have z2 := hS.1.cell 2 _ rfl; have zb := hS.2; go_simp; (try with_reducible rfl))
            try simp only [Act.put, List.setIfInBounds_toArray, List.set_cons_zero, List.set_cons_succ]
            refine wpAnyH_take (i := 7) (oi := ⟨some 151, _, _, _, _, _⟩) (v := ?v3307) rfl (by kernel_rfl) (by kernel_rfl) (by kernel_rfl) (fun _ _ _ h => h) (Or.inl ⟨rfl, ?c3307⟩) hH ?r3307
            case c3307 => (intro w' _; go_simp; (try with_reducible rfl))
            try simp only [Act.put, List.setIfInBounds_toArray, List.set_cons_zero, List.set_cons_succ]
            refine wpAnyH_take (i := 8) (oi := ⟨some 152, _, _, _, _, _⟩) (v := ?v3308) rfl (by kernel_rfl) (by kernel_rfl) (by kernel_rfl) (fun _ _ _ h => h) (Or.inl ⟨rfl, ?c3308⟩) hH ?r3308
            case c3308 => (intro w' _; go_simp; (try with_reducible rfl))
            try simp only [Act.put, List.setIfInBounds_toArray, List.set_cons_zero, List.set_cons_succ]
            refine wpAnyH_take (i := 9) (oi := ⟨some 153, _, _, _, _, _⟩) (v := ?v3309) rfl (by kernel_rfl) (by kernel_rfl) (by kernel_rfl) (fun _ _ _ h => h) (Or.inl ⟨rfl, ?c3309⟩) hH ?r3309
            case c3309 => (intro w' hS; have z2 := hS.1.cell 2 _ rfl; have zb := hS.2; go_simp; (try with_reducible rfl))
            try simp only [Act.put, List.setIfInBounds_toArray, List.set_cons_zero, List.set_cons_succ]
            refine wpAnyH_ready (rs := [6]) (by kernel_rfl) (by simp) (AllReadyH.cons rfl (fun K hK => ?_) (AllReadyH.nil))
            go_simp
            go_at_call 22
            refine HHO.out.mono ?_
            rintro e w7 ⟨rfl, rfl⟩
            refine hK.out _ _ (hH) (fun hH => ?_)
            clear hK K
            try simp only [Act.put, List.setIfInBounds_toArray, List.set_cons_zero, List.set_cons_succ]
            refine wpAnyH_ready (rs := [10]) (by kernel_rfl) (by simp) (AllReadyH.cons rfl (fun K hK => ?_) (AllReadyH.nil))
            go_simp
            go_at_call 23
            refine HRO.out.mono ?_
            rintro e w7 ⟨rfl, rfl⟩
            refine hK.out _ _ (hH) (fun hH => ?_)
            clear hK K
            try simp only [Act.put, List.setIfInBounds_toArray, List.set_cons_zero, List.set_cons_succ]
            refine wpAnyH_take (i := 11) (oi := ⟨some 155, _, _, _, _, _⟩) (v := ?v3310) rfl (by kernel_rfl) (by kernel_rfl) (by kernel_rfl) (fun _ _ _ h => h) (Or.inl ⟨rfl, ?c3310⟩) hH ?r3310
            case c3310 => (intro w' _; go_simp; (try simp only [bne_self_eq_false]); (try with_reducible rfl))
            try simp only [Act.put, List.setIfInBounds_toArray, List.set_cons_zero, List.set_cons_succ]
            refine wpAnyH_take (i := 12) (oi := ⟨some 156, _, _, _, _, _⟩) (v := ?v3311) rfl (by kernel_rfl) (by kernel_rfl) (by kernel_rfl) (fun _ _ _ h => h) (Or.inl ⟨rfl, ?c3311⟩) hH ?r3311
            case c3311 => (intro w' _; go_simp; (try with_reducible rfl))
            try simp only [Act.put, List.setIfInBounds_toArray, List.set_cons_zero, List.set_cons_succ]
            refine wpAnyH_take (i := 13) (oi := ⟨some 157, _, _, _, _, _⟩) (v := ?v3312) rfl (by kernel_rfl) (by kernel_rfl) (by kernel_rfl) (fun _ _ _ h => h) (Or.inl ⟨rfl, ?c3312⟩) hH ?r3312
            case c3312 => (intro w' _; go_simp; (try with_reducible rfl))
            try simp only [Act.put, List.setIfInBounds_toArray, List.set_cons_zero, List.set_cons_succ]
            refine wpAnyH_take (i := 14) (oi := ⟨some 158, _, _, _, _, _⟩) (v := ?v3313) rfl (by kernel_rfl) (by kernel_rfl) (by kernel_rfl) (fun _ _ _ h => h) (Or.inl ⟨rfl, ?c3313⟩) hH ?r3313
            case c3313 => (intro w' _; go_simp; (try with_reducible rfl))
            try simp only [Act.put, List.setIfInBounds_toArray, List.set_cons_zero, List.set_cons_succ]
            refine wpAnyH_take (i := 16) (oi := ⟨some 160, _, _, _, _, _⟩) (v := ?v3314) rfl (by kernel_rfl) (by kernel_rfl) (by kernel_rfl) (fun _ _ _ h => h) (Or.inl ⟨rfl, ?c3314⟩) hH ?r3314
            case c3314 => (intro w' _; go_simp; (try with_reducible rfl))
            try simp only [Act.put, List.setIfInBounds_toArray, List.set_cons_zero, List.set_cons_succ]
            refine wpAnyH_take (i := 17) (oi := ⟨some 161, _, _, _, _, _⟩) (v := ?v3315) rfl (by kernel_rfl) (by kernel_rfl) (by kernel_rfl) (fun _ _ _ h => h) (Or.inl ⟨rfl, ?c3315⟩) hH ?r3315
            case c3315 => (intro w' _; go_simp; (try with_reducible rfl))
            try simp only [Act.put, List.setIfInBounds_toArray, List.set_cons_zero, List.set_cons_succ]
            refine wpAnyH_take (i := 18) (oi := ⟨some 162, _, _, _, _, _⟩) (v := ?v3316) rfl (by kernel_rfl) (by kernel_rfl) (by kernel_rfl) (fun _ _ _ h => h) (Or.inl ⟨rfl, ?c3316⟩) hH ?r3316
            case c3316 => (intro w' _; go_simp; (try with_reducible rfl))
            try simp only [Act.put, List.setIfInBounds_toArray, List.set_cons_zero, List.set_cons_succ]
            refine wpAnyH_take (i := 19) (oi := ⟨some 163, _, _, _, _, _⟩) (v := ?v3317) rfl (by kernel_rfl) (by kernel_rfl) (by kernel_rfl) (fun _ _ _ h => h) (Or.inl ⟨rfl, ?c3317⟩) hH ?r3317
            case c3317 => (intro w' hS; have z2 := hS.1.cell 2 _ rfl; have zb := hS.2; go_simp; (try with_reducible rfl))
            try simp only [Act.put, List.setIfInBounds_toArray, List.set_cons_zero, List.set_cons_succ]
            refine wpAnyH_take (i := 20) (oi := ⟨some 164, _, _, _, _, _⟩) (v := ?v3318) rfl (by kernel_rfl) (by kernel_rfl) (by kernel_rfl) (fun _ _ _ h => h) (Or.inl ⟨rfl, ?c3318⟩) hH ?r3318
            case c3318 => (intro w' _; go_simp; (try with_reducible rfl))
            try simp only [Act.put, List.setIfInBounds_toArray, List.set_cons_zero, List.set_cons_succ]
            refine wpAnyH_ready (rs := [15]) (by kernel_rfl) (by simp) (AllReadyH.cons rfl (fun K hK => ?_) (AllReadyH.nil))
            go_simp
            go_at_call 24
            refine HWO.out.mono ?_
            rintro e w7 ⟨rfl, rfl⟩
            refine hK.out _ _ (hH) (fun hH => ?_)
            clear hK K
            try simp only [Act.put, List.setIfInBounds_toArray, List.set_cons_zero, List.set_cons_succ]
            refine wpAnyH_take (i := 21) (oi := ⟨some 165, _, _, _, _, _⟩) (v := ?v3319) rfl (by kernel_rfl) (by kernel_rfl) (by kernel_rfl) (fun _ _ _ h => h) (Or.inl ⟨rfl, ?c3319⟩) hH ?r3319
            case c3319 => (intro w' _; go_simp; (try simp only [bne_self_eq_false]); (try with_reducible rfl))
            try simp only [Act.put, List.setIfInBounds_toArray, List.set_cons_zero, List.set_cons_succ]
            refine wpAnyH_take (i := 22) (oi := ⟨some 166, _, _, _, _, _⟩) (v := ?v3320) rfl (by kernel_rfl) (by kernel_rfl) (by kernel_rfl) (fun _ _ _ h => h) (Or.inl ⟨rfl, ?c3320⟩) hH ?r3320
            case c3320 => (intro w' _; go_simp; (try with_reducible rfl))
            try simp only [Act.put, List.setIfInBounds_toArray, List.set_cons_zero, List.set_cons_succ]
            refine wpAnyH_done (by kernel_rfl) ?_ _
            clear hH
            go_wp2_with fail
            go_roundw
            case rel => exact ⟨i + 1, O1p, O2p, unlockS s t a, by go_num, by omega, by omega, HT7, HN7⟩
            case measure => simp [RowKit.intOf]; omega
        · as_aux_lemma =>
            go_wp2_with fail
            rw [HGU.out.2, HGU.out.1]
            go_at_call 19
            refine (read_any HTU.out.mem t a (by have := HN.out.2; omega)).mono ?_
            intro e w5 hd
            obtain ⟨O1p, rfl, hh, ho⟩ := HTU.out.does hd
            have HT5 := Lib.hid hh
            have HX5 := Lib.hid (Blk.only HXU.out ho (fun e => HG1.out _ e rfl))
            have z1 := HX5.out.cell 1 _ rfl
            have z2 := HX5.out.cell 2 _ rfl
            clear hd hh ho HTU HXU x0 x1 x2 x3 x4
            go_wp2_with fail
            go_at_call 20
            refine (refTouch_any HT5.out.ref t 5 a (by have := HN.out.2; omega)).mono ?_
            intro e w6 hd
            obtain ⟨O2p, rfl, hh, ho⟩ := HT5.out.rdoes hd
            have HT6 := Lib.hid hh
            have HX6 := Lib.hid (Blk.only HX5.out ho (fun e => HG2.out _ e rfl))
            have HN7 : Hid ((touchS s t 5 a).ws.length ≤ 8192 + (i + 1) ∧ (touchS s t 5 a).ls.length ≤ i + 1) := touch_lens s t 5 a HN.out
            clear hd hh ho HT5 HX5 z1 z2
            go_wp2_with fail
            have HT7 := Lib.hid (HT6.out.next (Below.refl _ _).drew)
            have HX7 := Lib.hid (HX6.out.drew)
            obtain ⟨⟨vw, vh, vl, hmm⟩, -⟩ := HT7.out.ref
            obtain ⟨Aw, cw, rfl, -, -⟩ := hmm.len0
            have b0 := hmm.blk.cell 0 _ rfl
            have HHO := Lib.hid (holder_any HT7.out.mem a)
            have HRO := Lib.hid (refHolder_any HT7.out.ref a)
            have HWO := Lib.hid (words_any HT7.out.mem)
            clear hmm
            generalize holdV (touchS s t 5 a) a = yv at HHO HRO
            obtain ⟨Nw, hNw⟩ : ∃ N, (touchS s t 5 a).ws.length = N := ⟨_, rfl⟩
            rw [hNw] at HWO b0
            clear hNw HT6 HX6
            refine wp_region_held_drew (S := fun w' => Blk w' g #[.int .u8 k, .int .i64 t, .int .i64 a, .int .u64 o, .int .u64 n] 29 ∧ w'.cell? ⟨B2, 0, none⟩ = some (.slice Aw Nw cw)) (by kernel_rfl) (⟨HX7.out, b0⟩) (fun hH => ?_)
            refine wpAnyH_take (i := 0) (oi := ⟨some 144, _, _, _, _, _⟩) (v := ?v3901) rfl (by kernel_rfl) (by kernel_rfl) (by kernel_rfl) (fun _ _ _ h => h) (Or.inl ⟨rfl, ?c3901⟩) hH ?r3901
            case c3901 => (intro w' _; go_simp; (try with_reducible rfl))
            try simp only [Act.put, List.setIfInBounds_toArray, List.set_cons_zero, List.set_cons_succ]
            refine wpAnyH_take (i := 1) (oi := ⟨some 145, _, _, _, _, _⟩) (v := ?v3902) rfl (by kernel_rfl) (by kernel_rfl) (by kernel_rfl) (fun _ _ _ h => h) (Or.inl ⟨rfl, ?c3902⟩) hH ?r3902
            case c3902 => (intro w' _; go_simp; (try with_reducible rfl))
            try simp only [Act.put, List.setIfInBounds_toArray, List.set_cons_zero, List.set_cons_succ]
            refine wpAnyH_take (i := 2) (oi := ⟨some 146, _, _, _, _, _⟩) (v := ?v3903) rfl (by kernel_rfl) (by kernel_rfl) (by kernel_rfl) (fun _ _ _ h => h) (Or.inl ⟨rfl, ?c3903⟩) hH ?r3903
            case c3903 => (intro w' _; go_simp; (try with_reducible rfl))
            try simp only [Act.put, List.setIfInBounds_toArray, List.set_cons_zero, List.set_cons_succ]
            refine wpAnyH_take (i := 3) (oi := ⟨some 147, _, _, _, _, _⟩) (v := ?v3904) rfl (by kernel_rfl) (by kernel_rfl) (by kernel_rfl) (fun _ _ _ h => h) (Or.inl ⟨rfl, ?c3904⟩) hH ?r3904
            case c3904 => (intro w' _; go_simp; (try with_reducible rfl))
            try simp only [Act.put, List.setIfInBounds_toArray, List.set_cons_zero, List.set_cons_succ]
            refine wpAnyH_take (i := 4) (oi := ⟨some 148, _, _, _, _, _⟩) (v := ?v3905) rfl (by kernel_rfl) (by kernel_rfl) (by kernel_rfl) (fun _ _ _ h => h) (Or.inl ⟨rfl, ?c3905⟩) hH ?r3905
            case c3905 => (intro w' _; go_simp; (try with_reducible rfl))
            try simp only [Act.put, List.setIfInBounds_toArray, List.set_cons_zero, List.set_cons_succ]
            refine wpAnyH_take (i := 5) (oi := ⟨some 149, _, _, _, _, _⟩) (v := ?v3906) rfl (by kernel_rfl) (by kernel_rfl) (by kernel_rfl) (fun _ _ _ h => h) (Or.inl ⟨rfl, ?c3906⟩) hH ?r3906
            case c3906 => (intro w' hS; have z2 := hS.1.cell 2 _ rfl; have zb := hS.2; go_simp; (try with_reducible rfl))
            try simp only [Act.put, List.setIfInBounds_toArray, List.set_cons_zero, List.set_cons_succ]
            refine wpAnyH_take (i := 7) (oi := ⟨some 151, _, _, _, _, _⟩) (v := ?v3907) rfl (by kernel_rfl) (by kernel_rfl) (by kernel_rfl) (fun _ _ _ h => h) (Or.inl ⟨rfl, ?c3907⟩) hH ?r3907
            case c3907 => (intro w' _; go_simp; (try with_reducible rfl))
            try simp only [Act.put, List.setIfInBounds_toArray, List.set_cons_zero, List.set_cons_succ]
            refine wpAnyH_take (i := 8) (oi := ⟨some 152, _, _, _, _, _⟩) (v := ?v3908) rfl (by kernel_rfl) (by kernel_rfl) (by kernel_rfl) (fun _ _ _ h => h) (Or.inl ⟨rfl, ?c3908⟩) hH ?r3908
            case c3908 => (intro w' _; go_simp; (try with_reducible rfl))
            try simp only [Act.put, List.setIfInBounds_toArray, List.set_cons_zero, List.set_cons_succ]
            refine wpAnyH_take (i := 9) (oi := ⟨some 153, _, _, _, _, _⟩) (v := ?v3909) rfl (by kernel_rfl) (by kernel_rfl) (by kernel_rfl) (fun _ _ _ h => h) (Or.inl ⟨rfl, ?c3909⟩) hH ?r3909
            case c3909 => (intro w' hS; have z2 := hS.1.cell 2 _ rfl; have zb := hS.2; go_simp; (try with_reducible rfl))
            try simp only [Act.put, List.setIfInBounds_toArray, List.set_cons_zero, List.set_cons_succ]
            refine wpAnyH_ready (rs := [6]) (by kernel_rfl) (by simp) (AllReadyH.cons rfl (fun K hK => ?_) (AllReadyH.nil))
            go_simp
            go_at_call 22
            refine HHO.out.mono ?_
            rintro e w7 ⟨rfl, rfl⟩
            refine hK.out _ _ (hH) (fun hH => ?_)
            clear hK K
            try simp only [Act.put, List.setIfInBounds_toArray, List.set_cons_zero, List.set_cons_succ]
            refine wpAnyH_ready (rs := [10]) (by kernel_rfl) (by simp) (AllReadyH.cons rfl (fun K hK => ?_) (AllReadyH.nil))
            go_simp
            go_at_call 23
            refine HRO.out.mono ?_
            rintro e w7 ⟨rfl, rfl⟩
            refine hK.out _ _ (hH) (fun hH => ?_)
            clear hK K
            try simp only [Act.put, List.setIfInBounds_toArray, List.set_cons_zero, List.set_cons_succ]
            refine wpAnyH_take (i := 11) (oi := ⟨some 155, _, _, _, _, _⟩) (v := ?v3910) rfl (by kernel_rfl) (by kernel_rfl) (by kernel_rfl) (fun _ _ _ h => h) (Or.inl ⟨rfl, ?c3910⟩) hH ?r3910
            case c3910 => (intro w' _; go_simp; (try simp only [bne_self_eq_false]); (try with_reducible rfl))
            try simp only [Act.put, List.setIfInBounds_toArray, List.set_cons_zero, List.set_cons_succ]
            refine wpAnyH_take (i := 12) (oi := ⟨some 156, _, _, _, _, _⟩) (v := ?v3911) rfl (by kernel_rfl) (by kernel_rfl) (by kernel_rfl) (fun _ _ _ h => h) (Or.inl ⟨rfl, ?c3911⟩) hH ?r3911
            case c3911 => (intro w' _; go_simp; (try with_reducible rfl))
            try simp only [Act.put, List.setIfInBounds_toArray, List.set_cons_zero, List.set_cons_succ]
            refine wpAnyH_take (i := 13) (oi := ⟨some 157, _, _, _, _, _⟩) (v := ?v3912) rfl (by kernel_rfl) (by kernel_rfl) (by kernel_rfl) (fun _ _ _ h => h) (Or.inl ⟨rfl, ?c3912⟩) hH ?r3912
            case c3912 => (intro w' _; go_simp; (try with_reducible rfl))
            try simp only [Act.put, List.setIfInBounds_toArray, List.set_cons_zero, List.set_cons_succ]
            refine wpAnyH_take (i := 14) (oi := ⟨some 158, _, _, _, _, _⟩) (v := ?v3913) rfl (by kernel_rfl) (by kernel_rfl) (by kernel_rfl) (fun _ _ _ h => h) (Or.inl ⟨rfl, ?c3913⟩) hH ?r3913
            case c3913 => (intro w' _; go_simp; (try with_reducible rfl))
            try simp only [Act.put, List.setIfInBounds_toArray, List.set_cons_zero, List.set_cons_succ]
            refine wpAnyH_take (i := 16) (oi := ⟨some 160, _, _, _, _, _⟩) (v := ?v3914) rfl (by kernel_rfl) (by kernel_rfl) (by kernel_rfl) (fun _ _ _ h => h) (Or.inl ⟨rfl, ?c3914⟩) hH ?r3914
            case c3914 => (intro w' _; go_simp; (try with_reducible rfl))
            try simp only [Act.put, List.setIfInBounds_toArray, List.set_cons_zero, List.set_cons_succ]
            refine wpAnyH_take (i := 17) (oi := ⟨some 161, _, _, _, _, _⟩) (v := ?v3915) rfl (by kernel_rfl) (by kernel_rfl) (by kernel_rfl) (fun _ _ _ h => h) (Or.inl ⟨rfl, ?c3915⟩) hH ?r3915
            case c3915 => (intro w' _; go_simp; (try with_reducible rfl))
            try simp only [Act.put, List.setIfInBounds_toArray, List.set_cons_zero, List.set_cons_succ]
            refine wpAnyH_take (i := 18) (oi := ⟨some 162, _, _, _, _, _⟩) (v := ?v3916) rfl (by kernel_rfl) (by kernel_rfl) (by kernel_rfl) (fun _ _ _ h => h) (Or.inl ⟨rfl, ?c3916⟩) hH ?r3916
            case c3916 => (intro w' _; go_simp; (try with_reducible rfl))
            try simp only [Act.put, List.setIfInBounds_toArray, List.set_cons_zero, List.set_cons_succ]
            refine wpAnyH_take (i := 19) (oi := ⟨some 163, _, _, _, _, _⟩) (v := ?v3917) rfl (by kernel_rfl) (by kernel_rfl) (by kernel_rfl) (fun _ _ _ h => h) (Or.inl ⟨rfl, ?c3917⟩) hH ?r3917
            case c3917 => (intro w' hS; have z2 := hS.1.cell 2 _ rfl; have zb := hS.2; go_simp; (try with_reducible rfl))
            try simp only [Act.put, List.setIfInBounds_toArray, List.set_cons_zero, List.set_cons_succ]
            refine wpAnyH_take (i := 20) (oi := ⟨some 164, _, _, _, _, _⟩) (v := ?v3918) rfl (by kernel_rfl) (by kernel_rfl) (by kernel_rfl) (fun _ _ _ h => h) (Or.inl ⟨rfl, ?c3918⟩) hH ?r3918
            case c3918 => (intro w' _; go_simp; (try with_reducible rfl))
            try simp only [Act.put, List.setIfInBounds_toArray, List.set_cons_zero, List.set_cons_succ]
            refine wpAnyH_ready (rs := [15]) (by kernel_rfl) (by simp) (AllReadyH.cons rfl (fun K hK => ?_) (AllReadyH.nil))
            go_simp
            go_at_call 24
            refine HWO.out.mono ?_
            rintro e w7 ⟨rfl, rfl⟩
            refine hK.out _ _ (hH) (fun hH => ?_)
            clear hK K
            try simp only [Act.put, List.setIfInBounds_toArray, List.set_cons_zero, List.set_cons_succ]
            refine wpAnyH_take (i := 21) (oi := ⟨some 165, _, _, _, _, _⟩) (v := ?v3919) rfl (by kernel_rfl) (by kernel_rfl) (by kernel_rfl) (fun _ _ _ h => h) (Or.inl ⟨rfl, ?c3919⟩) hH ?r3919
            case c3919 => (intro w' _; go_simp; (try simp only [bne_self_eq_false]); (try with_reducible rfl))
            try simp only [Act.put, List.setIfInBounds_toArray, List.set_cons_zero, List.set_cons_succ]
            refine wpAnyH_take (i := 22) (oi := ⟨some 166, _, _, _, _, _⟩) (v := ?v3920) rfl (by kernel_rfl) (by kernel_rfl) (by kernel_rfl) (fun _ _ _ h => h) (Or.inl ⟨rfl, ?c3920⟩) hH ?r3920
            case c3920 => (intro w' _; go_simp; (try with_reducible rfl))
            try simp only [Act.put, List.setIfInBounds_toArray, List.set_cons_zero, List.set_cons_succ]
            refine wpAnyH_done (by kernel_rfl) ?_ _
            clear hH
            go_wp2_with fail
            go_roundw
            case rel => exact ⟨i + 1, O1p, O2p, touchS s t 5 a, by go_num, by omega, by omega, HT7, HN7⟩
            case measure => simp [RowKit.intOf]; omega
        · as_aux_lemma =>
            go_wp2_with fail
            rw [HGU.out.2, HGU.out.1]
            go_at_call 21
            refine (write_any HTU.out.mem t a (by have := HN.out.2; omega)).mono ?_
            intro e w5 hd
            obtain ⟨O1p, rfl, hh, ho⟩ := HTU.out.does hd
            have HT5 := Lib.hid hh
            have HX5 := Lib.hid (Blk.only HXU.out ho (fun e => HG1.out _ e rfl))
            have z1 := HX5.out.cell 1 _ rfl
            have z2 := HX5.out.cell 2 _ rfl
            clear hd hh ho HTU HXU x0 x1 x2 x3 x4
            go_wp2_with fail
            go_at_call 20
            refine (refTouch_any HT5.out.ref t 6 a (by have := HN.out.2; omega)).mono ?_
            intro e w6 hd
            obtain ⟨O2p, rfl, hh, ho⟩ := HT5.out.rdoes hd
            have HT6 := Lib.hid hh
            have HX6 := Lib.hid (Blk.only HX5.out ho (fun e => HG2.out _ e rfl))
            have HN7 : Hid ((touchS s t 6 a).ws.length ≤ 8192 + (i + 1) ∧ (touchS s t 6 a).ls.length ≤ i + 1) := touch_lens s t 6 a HN.out
            clear hd hh ho HT5 HX5 z1 z2
            go_wp2_with fail
            have HT7 := Lib.hid (HT6.out.next (Below.refl _ _).drew)
            have HX7 := Lib.hid (HX6.out.drew)
            obtain ⟨⟨vw, vh, vl, hmm⟩, -⟩ := HT7.out.ref
            obtain ⟨Aw, cw, rfl, -, -⟩ := hmm.len0
            have b0 := hmm.blk.cell 0 _ rfl
            have HHO := Lib.hid (holder_any HT7.out.mem a)
            have HRO := Lib.hid (refHolder_any HT7.out.ref a)
            have HWO := Lib.hid (words_any HT7.out.mem)
            clear hmm
            generalize holdV (touchS s t 6 a) a = yv at HHO HRO
            obtain ⟨Nw, hNw⟩ : ∃ N, (touchS s t 6 a).ws.length = N := ⟨_, rfl⟩
            rw [hNw] at HWO b0
            clear hNw HT6 HX6
            refine wp_region_held_drew (S := fun w' => Blk w' g #[.int .u8 k, .int .i64 t, .int .i64 a, .int .u64 o, .int .u64 n] 29 ∧ w'.cell? ⟨B2, 0, none⟩ = some (.slice Aw Nw cw)) (by kernel_rfl) (⟨HX7.out, b0⟩) (fun hH => ?_)
            refine wpAnyH_take (i := 0) (oi := ⟨some 144, _, _, _, _, _⟩) (v := ?v4201) rfl (by kernel_rfl) (by kernel_rfl) (by kernel_rfl) (fun _ _ _ h => h) (Or.inl ⟨rfl, ?c4201⟩) hH ?r4201
            case c4201 => (intro w' _; go_simp; (try with_reducible rfl))
            try simp only [Act.put, List.setIfInBounds_toArray, List.set_cons_zero, List.set_cons_succ]
            refine wpAnyH_take (i := 1) (oi := ⟨some 145, _, _, _, _, _⟩) (v := ?v4202) rfl (by kernel_rfl) (by kernel_rfl) (by kernel_rfl) (fun _ _ _ h => h) (Or.inl ⟨rfl, ?c4202⟩) hH ?r4202
            case c4202 => (intro w' _; go_simp; (try with_reducible rfl))
            try simp only [Act.put, List.setIfInBounds_toArray, List.set_cons_zero, List.set_cons_succ]
            refine wpAnyH_take (i := 2) (oi := ⟨some 146, _, _, _, _, _⟩) (v := ?v4203) rfl (by kernel_rfl) (by kernel_rfl) (by kernel_rfl) (fun _ _ _ h => h) (Or.inl ⟨rfl, ?c4203⟩) hH ?r4203
            case c4203 => (intro w' _; go_simp; (try with_reducible rfl))
            try simp only [Act.put, List.setIfInBounds_toArray, List.set_cons_zero, List.set_cons_succ]
            refine wpAnyH_take (i := 3) (oi := ⟨some 147, _, _, _, _, _⟩) (v := ?v4204) rfl (by kernel_rfl) (by kernel_rfl) (by kernel_rfl) (fun _ _ _ h => h) (Or.inl ⟨rfl, ?c4204⟩) hH ?r4204
            case c4204 => (intro w' _; go_simp; (try with_reducible rfl))
            try simp only [Act.put, List.setIfInBounds_toArray, List.set_cons_zero, List.set_cons_succ]
            refine wpAnyH_take (i := 4) (oi := ⟨some 148, _, _, _, _, _⟩) (v := ?v4205) rfl (by kernel_rfl) (by kernel_rfl) (by kernel_rfl) (fun _ _ _ h => h) (Or.inl ⟨rfl, ?c4205⟩) hH ?r4205
            case c4205 => (intro w' _; go_simp; (try with_reducible rfl))
            try simp only [Act.put, List.setIfInBounds_toArray, List.set_cons_zero, List.set_cons_succ]
            refine wpAnyH_take (i := 5) (oi := ⟨some 149, _, _, _, _, _⟩) (v := ?v4206) rfl (by kernel_rfl) (by kernel_rfl) (by kernel_rfl) (fun _ _ _ h => h) (Or.inl ⟨rfl, ?c4206⟩) hH ?r4206
            case c4206 => (intro w' hS; have z2 := hS.1.cell 2 _ rfl; have zb := hS.2; go_simp; (try with_reducible rfl))
            try simp only [Act.put, List.setIfInBounds_toArray, List.set_cons_zero, List.set_cons_succ]
            refine wpAnyH_take (i := 7) (oi := ⟨some 151, _, _, _, _, _⟩) (v := ?v4207) rfl (by kernel_rfl) (by kernel_rfl) (by kernel_rfl) (fun _ _ _ h => h) (Or.inl ⟨rfl, ?c4207⟩) hH ?r4207
            case c4207 => (intro w' _; go_simp; (try with_reducible rfl))
            try simp only [Act.put, List.setIfInBounds_toArray, List.set_cons_zero, List.set_cons_succ]
            refine wpAnyH_take (i := 8) (oi := ⟨some 152, _, _, _, _, _⟩) (v := ?v4208) rfl (by kernel_rfl) (by kernel_rfl) (by kernel_rfl) (fun _ _ _ h => h) (Or.inl ⟨rfl, ?c4208⟩) hH ?r4208
            case c4208 => (intro w' _; go_simp; (try with_reducible rfl))
            try simp only [Act.put, List.setIfInBounds_toArray, List.set_cons_zero, List.set_cons_succ]
            refine wpAnyH_take (i := 9) (oi := ⟨some 153, _, _, _, _, _⟩) (v := ?v4209) rfl (by kernel_rfl) (by kernel_rfl) (by kernel_rfl) (fun _ _ _ h => h) (Or.inl ⟨rfl, ?c4209⟩) hH ?r4209
            case c4209 => (intro w' hS; have z2 := hS.1.cell 2 _ rfl; have zb := hS.2; go_simp; (try with_reducible rfl))
            try simp only [Act.put, List.setIfInBounds_toArray, List.set_cons_zero, List.set_cons_succ]
            refine wpAnyH_ready (rs := [6]) (by kernel_rfl) (by simp) (AllReadyH.cons rfl (fun K hK => ?_) (AllReadyH.nil))
            go_simp
            go_at_call 22
            refine HHO.out.mono ?_
            rintro e w7 ⟨rfl, rfl⟩
            refine hK.out _ _ (hH) (fun hH => ?_)
            clear hK K
            try simp only [Act.put, List.setIfInBounds_toArray, List.set_cons_zero, List.set_cons_succ]
            refine wpAnyH_ready (rs := [10]) (by kernel_rfl) (by simp) (AllReadyH.cons rfl (fun K hK => ?_) (AllReadyH.nil))
            go_simp
            go_at_call 23
            refine HRO.out.mono ?_
            rintro e w7 ⟨rfl, rfl⟩
            refine hK.out _ _ (hH) (fun hH => ?_)
            clear hK K
            try simp only [Act.put, List.setIfInBounds_toArray, List.set_cons_zero, List.set_cons_succ]
            refine wpAnyH_take (i := 11) (oi := ⟨some 155, _, _, _, _, _⟩) (v := ?v4210) rfl (by kernel_rfl) (by kernel_rfl) (by kernel_rfl) (fun _ _ _ h => h) (Or.inl ⟨rfl, ?c4210⟩) hH ?r4210
            case c4210 => (intro w' _; go_simp; (try simp only [bne_self_eq_false]); (try with_reducible rfl))
            try simp only [Act.put, List.setIfInBounds_toArray, List.set_cons_zero, List.set_cons_succ]
            refine wpAnyH_take (i := 12) (oi := ⟨some 156, _, _, _, _, _⟩) (v := ?v4211) rfl (by kernel_rfl) (by kernel_rfl) (by kernel_rfl) (fun _ _ _ h => h) (Or.inl ⟨rfl, ?c4211⟩) hH ?r4211
            case c4211 => (intro w' _; go_simp; (try with_reducible rfl))
            try simp only [Act.put, List.setIfInBounds_toArray, List.set_cons_zero, List.set_cons_succ]
            refine wpAnyH_take (i := 13) (oi := ⟨some 157, _, _, _, _, _⟩) (v := ?v4212) rfl (by kernel_rfl) (by kernel_rfl) (by kernel_rfl) (fun _ _ _ h => h) (Or.inl ⟨rfl, ?c4212⟩) hH ?r4212
            case c4212 => (intro w' _; go_simp; (try with_reducible rfl))
            try simp only [Act.put, List.setIfInBounds_toArray, List.set_cons_zero, List.set_cons_succ]
            refine wpAnyH_take (i := 14) (oi := ⟨some 158, _, _, _, _, _⟩) (v := ?v4213) rfl (by kernel_rfl) (by kernel_rfl) (by kernel_rfl) (fun _ _ _ h => h) (Or.inl ⟨rfl, ?c4213⟩) hH ?r4213
            case c4213 => (intro w' _; go_simp; (try with_reducible rfl))
            try simp only [Act.put, List.setIfInBounds_toArray, List.set_cons_zero, List.set_cons_succ]
            refine wpAnyH_take (i := 16) (oi := ⟨some 160, _, _, _, _, _⟩) (v := ?v4214) rfl (by kernel_rfl) (by kernel_rfl) (by kernel_rfl) (fun _ _ _ h => h) (Or.inl ⟨rfl, ?c4214⟩) hH ?r4214
            case c4214 => (intro w' _; go_simp; (try with_reducible rfl))
            try simp only [Act.put, List.setIfInBounds_toArray, List.set_cons_zero, List.set_cons_succ]
            refine wpAnyH_take (i := 17) (oi := ⟨some 161, _, _, _, _, _⟩) (v := ?v4215) rfl (by kernel_rfl) (by kernel_rfl) (by kernel_rfl) (fun _ _ _ h => h) (Or.inl ⟨rfl, ?c4215⟩) hH ?r4215
            case c4215 => (intro w' _; go_simp; (try with_reducible rfl))
            try simp only [Act.put, List.setIfInBounds_toArray, List.set_cons_zero, List.set_cons_succ]
            refine wpAnyH_take (i := 18) (oi := ⟨some 162, _, _, _, _, _⟩) (v := ?v4216) rfl (by kernel_rfl) (by kernel_rfl) (by kernel_rfl) (fun _ _ _ h => h) (Or.inl ⟨rfl, ?c4216⟩) hH ?r4216
            case c4216 => (intro w' _; go_simp; (try with_reducible rfl))
            try simp only [Act.put, List.setIfInBounds_toArray, List.set_cons_zero, List.set_cons_succ]
            refine wpAnyH_take (i := 19) (oi := ⟨some 163, _, _, _, _, _⟩) (v := ?v4217) rfl (by kernel_rfl) (by kernel_rfl) (by kernel_rfl) (fun _ _ _ h => h) (Or.inl ⟨rfl, ?c4217⟩) hH ?r4217
            case c4217 => (intro w' hS; have z2 := hS.1.cell 2 _ rfl; have zb := hS.2; go_simp; (try with_reducible rfl))
            try simp only [Act.put, List.setIfInBounds_toArray, List.set_cons_zero, List.set_cons_succ]
            refine wpAnyH_take (i := 20) (oi := ⟨some 164, _, _, _, _, _⟩) (v := ?v4218) rfl (by kernel_rfl) (by kernel_rfl) (by kernel_rfl) (fun _ _ _ h => h) (Or.inl ⟨rfl, ?c4218⟩) hH ?r4218
            case c4218 => (intro w' _; go_simp; (try with_reducible rfl))
            try simp only [Act.put, List.setIfInBounds_toArray, List.set_cons_zero, List.set_cons_succ]
            refine wpAnyH_ready (rs := [15]) (by kernel_rfl) (by simp) (AllReadyH.cons rfl (fun K hK => ?_) (AllReadyH.nil))
            go_simp
            go_at_call 24
            refine HWO.out.mono ?_
            rintro e w7 ⟨rfl, rfl⟩
            refine hK.out _ _ (hH) (fun hH => ?_)
            clear hK K
            try simp only [Act.put, List.setIfInBounds_toArray, List.set_cons_zero, List.set_cons_succ]
            refine wpAnyH_take (i := 21) (oi := ⟨some 165, _, _, _, _, _⟩) (v := ?v4219) rfl (by kernel_rfl) (by kernel_rfl) (by kernel_rfl) (fun _ _ _ h => h) (Or.inl ⟨rfl, ?c4219⟩) hH ?r4219
            case c4219 => (intro w' _; go_simp; (try simp only [bne_self_eq_false]); (try with_reducible rfl))
            try simp only [Act.put, List.setIfInBounds_toArray, List.set_cons_zero, List.set_cons_succ]
            refine wpAnyH_take (i := 22) (oi := ⟨some 166, _, _, _, _, _⟩) (v := ?v4220) rfl (by kernel_rfl) (by kernel_rfl) (by kernel_rfl) (fun _ _ _ h => h) (Or.inl ⟨rfl, ?c4220⟩) hH ?r4220
            case c4220 => (intro w' _; go_simp; (try with_reducible rfl))
            try simp only [Act.put, List.setIfInBounds_toArray, List.set_cons_zero, List.set_cons_succ]
            refine wpAnyH_done (by kernel_rfl) ?_ _
            clear hH
            go_wp2_with fail
            go_roundw
            case rel => exact ⟨i + 1, O1p, O2p, touchS s t 6 a, by go_num, by omega, by omega, HT7, HN7⟩
            case measure => simp [RowKit.intOf]; omega
      · as_aux_lemma =>
          obtain ⟨N, hN⟩ : ∃ N, s.ws.length = N := ⟨_, rfl⟩
          have HNN := Lib.hid hN
          have hNb : N ≤ 100000 := by have := HN.out.1; omega
          clear hN
          go_wp2_with fail
          go_loopw [12] (fun vj wx => ∃ j : Nat, vj = .int .i64 (j : Int) ∧ j ≤ N ∧ Hid (Tw W O1 O2 B1 B2 s s wx)) (fun vj _ => N - (RowKit.intOf vj).toNat)
          case atStart => exact ⟨0, rfl, by omega, HT⟩
          case round =>
            clear HT
            obtain ⟨j, rfl, hj, HT⟩ := hrel
            by_cases hjn : j < N
            · obtain ⟨⟨vw, vh, vl, hmm⟩, -⟩ := HT.out.ref
              obtain ⟨g2, cw, rfl, hcw, hcw2, -, c1, -⟩ := hmm.word (j := j) (by rw [HNN.out]; exact hjn)
              have b0 := hmm.blk.cell 0 _ rfl
              rw [HNN.out] at b0 hcw
              have HLK : Hid (Calls Try.prog 25 #[ptr B1, .int .i64 (j : Int)] wr.drew fun e w' => e = .returned (.int .u64 (s.ws.getD j 0)) ∧ wr.drew = w') := by
                have h := look_any (HT.out.next (Below.refl _ _).drew).mem (j : Int)
                have e : lookV s (j : Int) = s.ws.getD j 0 := by unfold lookV; rw [has_nat (by rw [HNN.out]; exact hjn), if_pos rfl, at_nat]
                rw [e] at h
                exact h
              have HT8 := Lib.hid (HT.out.next (Below.refl _ _).drew)
              clear hmm HT
              generalize s.ws.getD j 0 = zv at *
              go_wp2_with fail
              refine wp_region_held_drew (S := fun w' => w'.cell? ⟨B2, 0, none⟩ = some (.slice (some ⟨g2, 0, none⟩) N cw) ∧ w'.cell? ⟨g2, j, none⟩ = some (.int .u64 zv)) (by kernel_rfl) (⟨b0, c1⟩) (fun hH => ?_)
              refine wpAnyH_take (i := 0) (oi := ⟨some 176, _, _, _, _, _⟩) (v := ?v4501) rfl (by kernel_rfl) (by kernel_rfl) (by kernel_rfl) (fun _ _ _ h => h) (Or.inl ⟨rfl, ?c4501⟩) hH ?r4501
              case c4501 => (intro w' _; go_simp; (try with_reducible rfl))
              try simp only [Act.put, List.setIfInBounds_toArray, List.set_cons_zero, List.set_cons_succ]
              refine wpAnyH_take (i := 1) (oi := ⟨some 177, _, _, _, _, _⟩) (v := ?v4502) rfl (by kernel_rfl) (by kernel_rfl) (by kernel_rfl) (fun _ _ _ h => h) (Or.inl ⟨rfl, ?c4502⟩) hH ?r4502
              case c4502 => (intro w' _; go_simp; (try with_reducible rfl))
              try simp only [Act.put, List.setIfInBounds_toArray, List.set_cons_zero, List.set_cons_succ]
              refine wpAnyH_take (i := 3) (oi := ⟨some 179, _, _, _, _, _⟩) (v := ?v4503) rfl (by kernel_rfl) (by kernel_rfl) (by kernel_rfl) (fun _ _ _ h => h) (Or.inl ⟨rfl, ?c4503⟩) hH ?r4503
              case c4503 => (intro w' _; go_simp; (try with_reducible rfl))
              try simp only [Act.put, List.setIfInBounds_toArray, List.set_cons_zero, List.set_cons_succ]
              refine wpAnyH_take (i := 4) (oi := ⟨some 180, _, _, _, _, _⟩) (v := ?v4504) rfl (by kernel_rfl) (by kernel_rfl) (by kernel_rfl) (fun _ _ _ h => h) (Or.inl ⟨rfl, ?c4504⟩) hH ?r4504
              case c4504 => (intro w' _; go_simp; (try with_reducible rfl))
              try simp only [Act.put, List.setIfInBounds_toArray, List.set_cons_zero, List.set_cons_succ]
              refine wpAnyH_take (i := 5) (oi := ⟨some 181, _, _, _, _, _⟩) (v := ?v4505) rfl (by kernel_rfl) (by kernel_rfl) (by kernel_rfl) (fun _ _ _ h => h) (Or.inl ⟨rfl, ?c4505⟩) hH ?r4505
              case c4505 => (intro w' _; go_simp; (try with_reducible rfl))
              try simp only [Act.put, List.setIfInBounds_toArray, List.set_cons_zero, List.set_cons_succ]
              refine wpAnyH_take (i := 6) (oi := ⟨some 182, _, _, _, _, _⟩) (v := ?v4506) rfl (by kernel_rfl) (by kernel_rfl) (by kernel_rfl) (fun _ _ _ h => h) (Or.inl ⟨rfl, ?c4506⟩) hH ?r4506
              case c4506 => (intro w' hS; have zb := hS.1; have zc := hS.2; go_simp; (try with_reducible rfl))
              try simp only [Act.put, List.setIfInBounds_toArray, List.set_cons_zero, List.set_cons_succ]
              refine wpAnyH_take (i := 7) (oi := ⟨some 183, _, _, _, _, _⟩) (v := ?v4507) rfl (by kernel_rfl) (by kernel_rfl) (by kernel_rfl) (fun _ _ _ h => h) (Or.inl ⟨rfl, ?c4507⟩) hH ?r4507
              case c4507 => (intro w' _; go_simp; (try with_reducible rfl))
              try simp only [Act.put, List.setIfInBounds_toArray, List.set_cons_zero, List.set_cons_succ]
              refine wpAnyH_take (i := 8) (oi := ⟨some 184, _, _, _, _, _⟩) (v := ?v4508) rfl (by kernel_rfl) (by kernel_rfl) (by kernel_rfl) (fun _ _ _ h => h) (Or.inl ⟨rfl, ?c4508⟩) hH ?r4508
              case c4508 => (intro w' _; go_simp; (try with_reducible rfl))
              try simp only [Act.put, List.setIfInBounds_toArray, List.set_cons_zero, List.set_cons_succ]
              refine wpAnyH_take (i := 9) (oi := ⟨some 185, _, _, _, _, _⟩) (v := ?v4509) rfl (by kernel_rfl) (by kernel_rfl) (by kernel_rfl) (fun _ _ _ h => h) (Or.inl ⟨rfl, ?c4509⟩) hH ?r4509
              case c4509 => (intro w' hS; have zb := hS.1; have zc := hS.2; go_simp; (try with_reducible rfl))
              try simp only [Act.put, List.setIfInBounds_toArray, List.set_cons_zero, List.set_cons_succ]
              refine wpAnyH_ready (rs := [2]) (by kernel_rfl) (by simp) (AllReadyH.cons rfl (fun K hK => ?_) (AllReadyH.nil))
              go_simp
              go_at_call 25
              refine HLK.out.mono ?_
              rintro e w7 ⟨rfl, rfl⟩
              refine hK.out _ _ (hH) (fun hH => ?_)
              clear hK K
              try simp only [Act.put, List.setIfInBounds_toArray, List.set_cons_zero, List.set_cons_succ]
              refine wpAnyH_take (i := 10) (oi := ⟨some 186, _, _, _, _, _⟩) (v := ?v4510) rfl (by kernel_rfl) (by kernel_rfl) (by kernel_rfl) (fun _ _ _ h => h) (Or.inl ⟨rfl, ?c4510⟩) hH ?r4510
              case c4510 => (intro w' _; go_simp; (try simp only [bne_self_eq_false]); (try with_reducible rfl))
              try simp only [Act.put, List.setIfInBounds_toArray, List.set_cons_zero, List.set_cons_succ]
              refine wpAnyH_done (by kernel_rfl) ?_ _
              clear hH b0 c1
              go_wp2_with fail
              go_roundw
              case rel => exact ⟨j + 1, by go_num, by omega, HT8⟩
              case measure => simp [RowKit.intOf]; omega
            · obtain rfl : j = N := by omega
              obtain ⟨⟨vw, vh, vl, hmm⟩, -⟩ := HT.out.ref
              obtain ⟨Aw, cw, rfl, hcw, hcw2⟩ := hmm.len0
              have hal : Acs wr wr.heap.size vl s.ls := Rd.of_own hmm.lr
              obtain ⟨Al, cl, rfl, -, -⟩ := hmm.len2
              have b0 := hmm.blk.cell 0 _ rfl
              have b2 := hmm.blk.cell 2 _ rfl
              have HAL := Lib.hid hal
              have HB2L : Hid (∀ X, Tw W O1 O2 B1 B2 s s X → B2 < X.heap.size) := fun X h => h.ref.lt _ hmm.ob
              rw [HNN.out] at b0 hcw
              have HK1 : Hid (lookV s (-1) = 0) := by show _ = _; unfold lookV; rw [has_neg (by omega)]; rfl
              have HK2 : Hid (lookV s (j : Int) = 0) := by show _ = _; unfold lookV; rw [has_neg (by rw [HNN.out]; omega)]; rfl
              obtain ⟨Ll, hLl⟩ : ∃ L, s.ls.length = L := ⟨_, rfl⟩
              unfold Acs at hal
              rw [hLl] at b2
              have HAL : Hid (Acs wr wr.heap.size (.slice Al Ll cl) s.ls) := by show Rd _ _ _ _ _ _; rw [← hLl]; exact HAL.out
              clear hmm hal hLl
              go_wp2_with fail
              refine wp_region_held_drew (S := fun w' => w'.cell? ⟨B2, 0, none⟩ = some (.slice Aw j cw) ∧ w'.cell? ⟨B2, 2, none⟩ = some (.slice Al Ll cl) ∧ Hid (Tw W O1 O2 B1 B2 s s w') ∧ Hid (Acs w' w'.heap.size (.slice Al Ll cl) s.ls)) (by kernel_rfl) (⟨b0, b2, Lib.hid (HT.out.next (Below.refl _ _).drew), Lib.hid (HAL.out.next (Below.refl _ _).drew)⟩) (fun hH => ?_)
              refine wpAnyH_ready (rs := [0]) (by kernel_rfl) (by simp) (AllReadyH.cons rfl (fun K hK => ?_) (AllReadyH.nil))
              go_simp
              go_at_call 26
              refine (awake_any _).mono ?_
              rintro e w9 ⟨rfl, hb⟩
              refine hK.out _ _ (⟨(hb.cell (p := ⟨B2, 0, none⟩) (HB2L.out _ hH.2.2.1.out)).trans hH.1, (hb.cell (p := ⟨B2, 2, none⟩) (HB2L.out _ hH.2.2.1.out)).trans hH.2.1, Lib.hid (hH.2.2.1.out.next hb), Lib.hid (hH.2.2.2.out.next hb)⟩) (fun hH => ?_)
              clear hK K
              clear hb
              try simp only [Act.put, List.setIfInBounds_toArray, List.set_cons_zero, List.set_cons_succ]
              refine wpAnyH_take (i := 1) (oi := ⟨some 188, _, _, _, _, _⟩) (v := ?v4801) rfl (by kernel_rfl) (by kernel_rfl) (by kernel_rfl) (fun _ _ _ h => h) (Or.inl ⟨rfl, ?c4801⟩) hH ?r4801
              case c4801 => (intro w' _; go_simp; (try with_reducible rfl))
              try simp only [Act.put, List.setIfInBounds_toArray, List.set_cons_zero, List.set_cons_succ]
              refine wpAnyH_take (i := 2) (oi := ⟨some 189, _, _, _, _, _⟩) (v := ?v4802) rfl (by kernel_rfl) (by kernel_rfl) (by kernel_rfl) (fun _ _ _ h => h) (Or.inl ⟨rfl, ?c4802⟩) hH ?r4802
              case c4802 => (intro w' _; go_simp; (try with_reducible rfl))
              try simp only [Act.put, List.setIfInBounds_toArray, List.set_cons_zero, List.set_cons_succ]
              refine wpAnyH_take (i := 4) (oi := ⟨some 191, _, _, _, _, _⟩) (v := ?v4803) rfl (by kernel_rfl) (by kernel_rfl) (by kernel_rfl) (fun _ _ _ h => h) (Or.inl ⟨rfl, ?c4803⟩) hH ?r4803
              case c4803 => (intro w' _; go_simp; (try with_reducible rfl))
              try simp only [Act.put, List.setIfInBounds_toArray, List.set_cons_zero, List.set_cons_succ]
              refine wpAnyH_take (i := 5) (oi := ⟨some 192, _, _, _, _, _⟩) (v := ?v4804) rfl (by kernel_rfl) (by kernel_rfl) (by kernel_rfl) (fun _ _ _ h => h) (Or.inl ⟨rfl, ?c4804⟩) hH ?r4804
              case c4804 => (intro w' _; go_simp; (try with_reducible rfl))
              try simp only [Act.put, List.setIfInBounds_toArray, List.set_cons_zero, List.set_cons_succ]
              refine wpAnyH_take (i := 6) (oi := ⟨some 193, _, _, _, _, _⟩) (v := ?v4805) rfl (by kernel_rfl) (by kernel_rfl) (by kernel_rfl) (fun _ _ _ h => h) (Or.inl ⟨rfl, ?c4805⟩) hH ?r4805
              case c4805 => (intro w' _; go_simp; (try with_reducible rfl))
              try simp only [Act.put, List.setIfInBounds_toArray, List.set_cons_zero, List.set_cons_succ]
              refine wpAnyH_take (i := 7) (oi := ⟨some 194, _, _, _, _, _⟩) (v := ?v4806) rfl (by kernel_rfl) (by kernel_rfl) (by kernel_rfl) (fun _ _ _ h => h) (Or.inl ⟨rfl, ?c4806⟩) hH ?r4806
              case c4806 => (intro w' hS; have zb := hS.1; have zc := hS.2.1; go_simp; (try with_reducible rfl))
              try simp only [Act.put, List.setIfInBounds_toArray, List.set_cons_zero, List.set_cons_succ]
              refine wpAnyH_ready (rs := [3]) (by kernel_rfl) (by simp) (AllReadyH.cons rfl (fun K hK => ?_) (AllReadyH.nil))
              go_simp
              go_at_call 28
              refine (log_any hH.2.2.1.out.mem (by have := HN.out.2; omega)).mono ?_
              rintro e w10 ⟨v, rfl, hv1, -, hb⟩
              obtain ⟨A3, c3, rfl, -, -⟩ := hv1.len
              have HV := Lib.hid hv1
              refine hK.out _ _ (⟨(hb.cell (p := ⟨B2, 0, none⟩) (HB2L.out _ hH.2.2.1.out)).trans hH.1, (hb.cell (p := ⟨B2, 2, none⟩) (HB2L.out _ hH.2.2.1.out)).trans hH.2.1, Lib.hid (hH.2.2.1.out.next hb), Lib.hid (hH.2.2.2.out.next hb)⟩) (fun hH => ?_)
              clear hK K
              clear hb hv1
              try simp only [Act.put, List.setIfInBounds_toArray, List.set_cons_zero, List.set_cons_succ]
              refine wpAnyH_ready (rs := [8]) (by kernel_rfl) (by simp) (AllReadyH.cons rfl (fun K hK => ?_) (AllReadyH.nil))
              go_simp
              go_at_call 27
              refine (same_true _ _ s.ls _ HV.out hH.2.2.2.out).mono ?_
              rintro e w11 ⟨rfl, qq, rfl⟩
              have hb : Below w10.heap.size w10 (w10.drewN qq) := (Below.refl _ _).drews qq
              refine hK.out _ _ (⟨(hb.cell (p := ⟨B2, 0, none⟩) (HB2L.out _ hH.2.2.1.out)).trans hH.1, (hb.cell (p := ⟨B2, 2, none⟩) (HB2L.out _ hH.2.2.1.out)).trans hH.2.1, Lib.hid (hH.2.2.1.out.next hb), Lib.hid (hH.2.2.2.out.next hb)⟩) (fun hH => ?_)
              clear hK K
              clear hb HV
              try simp only [Act.put, List.setIfInBounds_toArray, List.set_cons_zero, List.set_cons_succ]
              refine wpAnyH_take (i := 9) (oi := ⟨some 196, _, _, _, _, _⟩) (v := ?v4807) rfl (by kernel_rfl) (by kernel_rfl) (by kernel_rfl) (fun _ _ _ h => h) (Or.inl ⟨rfl, ?c4807⟩) hH ?r4807
              case c4807 => (intro w' _; go_simp; (try with_reducible rfl))
              try simp only [Act.put, List.setIfInBounds_toArray, List.set_cons_zero, List.set_cons_succ]
              refine wpAnyH_take (i := 10) (oi := ⟨some 197, _, _, _, _, _⟩) (v := ?v4808) rfl (by kernel_rfl) (by kernel_rfl) (by kernel_rfl) (fun _ _ _ h => h) (Or.inl ⟨rfl, ?c4808⟩) hH ?r4808
              case c4808 => (intro w' _; go_simp; (try with_reducible rfl))
              try simp only [Act.put, List.setIfInBounds_toArray, List.set_cons_zero, List.set_cons_succ]
              refine wpAnyH_take (i := 11) (oi := ⟨some 198, _, _, _, _, _⟩) (v := ?v4809) rfl (by kernel_rfl) (by kernel_rfl) (by kernel_rfl) (fun _ _ _ h => h) (Or.inl ⟨rfl, ?c4809⟩) hH ?r4809
              case c4809 => (intro w' _; go_simp; (try with_reducible rfl))
              try simp only [Act.put, List.setIfInBounds_toArray, List.set_cons_zero, List.set_cons_succ]
              refine wpAnyH_ready (rs := [12]) (by kernel_rfl) (by simp) (AllReadyH.cons rfl (fun K hK => ?_) (AllReadyH.nil))
              go_simp
              go_at_call 25
              refine (look_any hH.2.2.1.out.mem (-1)).mono ?_
              rw [HK1.out]
              rintro e w12 ⟨rfl, rfl⟩
              refine hK.out _ _ (hH) (fun hH => ?_)
              clear hK K
              try simp only [Act.put, List.setIfInBounds_toArray, List.set_cons_zero, List.set_cons_succ]
              refine wpAnyH_take (i := 13) (oi := ⟨some 200, _, _, _, _, _⟩) (v := ?v4810) rfl (by kernel_rfl) (by kernel_rfl) (by kernel_rfl) (fun _ _ _ h => h) (Or.inl ⟨rfl, ?c4810⟩) hH ?r4810
              case c4810 => (intro w' _; go_simp; (try with_reducible rfl))
              try simp only [Act.put, List.setIfInBounds_toArray, List.set_cons_zero, List.set_cons_succ]
              refine wpAnyH_take (i := 14) (oi := ⟨some 201, _, _, _, _, _⟩) (v := ?v4811) rfl (by kernel_rfl) (by kernel_rfl) (by kernel_rfl) (fun _ _ _ h => h) (Or.inl ⟨rfl, ?c4811⟩) hH ?r4811
              case c4811 => (intro w' _; go_simp; (try with_reducible rfl))
              try simp only [Act.put, List.setIfInBounds_toArray, List.set_cons_zero, List.set_cons_succ]
              refine wpAnyH_take (i := 15) (oi := ⟨some 202, _, _, _, _, _⟩) (v := ?v4812) rfl (by kernel_rfl) (by kernel_rfl) (by kernel_rfl) (fun _ _ _ h => h) (Or.inl ⟨rfl, ?c4812⟩) hH ?r4812
              case c4812 => (intro w' _; go_simp; (try with_reducible rfl))
              try simp only [Act.put, List.setIfInBounds_toArray, List.set_cons_zero, List.set_cons_succ]
              refine wpAnyH_take (i := 16) (oi := ⟨some 203, _, _, _, _, _⟩) (v := ?v4813) rfl (by kernel_rfl) (by kernel_rfl) (by kernel_rfl) (fun _ _ _ h => h) (Or.inl ⟨rfl, ?c4813⟩) hH ?r4813
              case c4813 => (intro w' _; go_simp; (try with_reducible rfl))
              try simp only [Act.put, List.setIfInBounds_toArray, List.set_cons_zero, List.set_cons_succ]
              refine wpAnyH_take (i := 17) (oi := ⟨some 204, _, _, _, _, _⟩) (v := ?v4814) rfl (by kernel_rfl) (by kernel_rfl) (by kernel_rfl) (fun _ _ _ h => h) (Or.inl ⟨rfl, ?c4814⟩) hH ?r4814
              case c4814 => (intro w' _; go_simp; (try with_reducible rfl))
              try simp only [Act.put, List.setIfInBounds_toArray, List.set_cons_zero, List.set_cons_succ]
              refine wpAnyH_take (i := 18) (oi := ⟨some 205, _, _, _, _, _⟩) (v := ?v4815) rfl (by kernel_rfl) (by kernel_rfl) (by kernel_rfl) (fun _ _ _ h => h) (Or.inl ⟨rfl, ?c4815⟩) hH ?r4815
              case c4815 => (intro w' _; go_simp; (try with_reducible rfl))
              try simp only [Act.put, List.setIfInBounds_toArray, List.set_cons_zero, List.set_cons_succ]
              refine wpAnyH_take (i := 19) (oi := ⟨some 206, _, _, _, _, _⟩) (v := ?v4816) rfl (by kernel_rfl) (by kernel_rfl) (by kernel_rfl) (fun _ _ _ h => h) (Or.inl ⟨rfl, ?c4816⟩) hH ?r4816
              case c4816 => (intro w' _; go_simp; (try with_reducible rfl))
              try simp only [Act.put, List.setIfInBounds_toArray, List.set_cons_zero, List.set_cons_succ]
              refine wpAnyH_take (i := 20) (oi := ⟨some 207, _, _, _, _, _⟩) (v := ?v4817) rfl (by kernel_rfl) (by kernel_rfl) (by kernel_rfl) (fun _ _ _ h => h) (Or.inl ⟨rfl, ?c4817⟩) hH ?r4817
              case c4817 => (intro w' hS; have zb := hS.1; have zc := hS.2.1; go_simp; (try with_reducible rfl))
              try simp only [Act.put, List.setIfInBounds_toArray, List.set_cons_zero, List.set_cons_succ]
              refine wpAnyH_take (i := 21) (oi := ⟨some 208, _, _, _, _, _⟩) (v := ?v4818) rfl (by kernel_rfl) (by kernel_rfl) (by kernel_rfl) (fun _ _ _ h => h) (Or.inl ⟨rfl, ?c4818⟩) hH ?r4818
              case c4818 => (intro w' _; go_simp; (try with_reducible rfl))
              try simp only [Act.put, List.setIfInBounds_toArray, List.set_cons_zero, List.set_cons_succ]
              refine wpAnyH_ready (rs := [22]) (by kernel_rfl) (by simp) (AllReadyH.cons rfl (fun K hK => ?_) (AllReadyH.nil))
              go_simp
              go_at_call 25
              refine (look_any hH.2.2.1.out.mem (j : Int)).mono ?_
              rw [HK2.out]
              rintro e w12 ⟨rfl, rfl⟩
              refine hK.out _ _ (hH) (fun hH => ?_)
              clear hK K
              try simp only [Act.put, List.setIfInBounds_toArray, List.set_cons_zero, List.set_cons_succ]
              refine wpAnyH_take (i := 23) (oi := ⟨some 210, _, _, _, _, _⟩) (v := ?v4819) rfl (by kernel_rfl) (by kernel_rfl) (by kernel_rfl) (fun _ _ _ h => h) (Or.inl ⟨rfl, ?c4819⟩) hH ?r4819
              case c4819 => (intro w' _; go_simp; (try with_reducible rfl))
              try simp only [Act.put, List.setIfInBounds_toArray, List.set_cons_zero, List.set_cons_succ]
              refine wpAnyH_take (i := 24) (oi := ⟨some 211, _, _, _, _, _⟩) (v := ?v4820) rfl (by kernel_rfl) (by kernel_rfl) (by kernel_rfl) (fun _ _ _ h => h) (Or.inl ⟨rfl, ?c4820⟩) hH ?r4820
              case c4820 => (intro w' _; go_simp; (try with_reducible rfl))
              try simp only [Act.put, List.setIfInBounds_toArray, List.set_cons_zero, List.set_cons_succ]
              refine wpAnyH_take (i := 25) (oi := ⟨some 6, _, _, _, _, _⟩) (v := ?v4821) rfl (by kernel_rfl) (by kernel_rfl) (by kernel_rfl) (fun _ _ _ h => h) (Or.inl ⟨rfl, ?c4821⟩) hH ?r4821
              case c4821 => (intro w' _; go_simp; (try with_reducible rfl))
              try simp only [Act.put, List.setIfInBounds_toArray, List.set_cons_zero, List.set_cons_succ]
              refine wpAnyH_done (by kernel_rfl) ?_ _
              have HBB := Lib.hid hH.2.2.1.out.bel
              clear hH
              go_wp2_with fail
              go_ret
              exact ⟨rfl, HBB.out⟩
    · as_aux_lemma =>
        obtain ⟨N, hN⟩ : ∃ N, s.ws.length = N := ⟨_, rfl⟩
        have HNN := Lib.hid hN
        have hNb : N ≤ 100000 := by have := HN.out.1; omega
        clear hN
        go_wp2_with fail
        go_loopw [12] (fun vj wx => ∃ j : Nat, vj = .int .i64 (j : Int) ∧ j ≤ N ∧ Hid (Tw W O1 O2 B1 B2 s s wx)) (fun vj _ => N - (RowKit.intOf vj).toNat)
        case atStart => exact ⟨0, rfl, by omega, HT⟩
        case round =>
          clear HT
          obtain ⟨j, rfl, hj, HT⟩ := hrel
          by_cases hjn : j < N
          · obtain ⟨⟨vw, vh, vl, hmm⟩, -⟩ := HT.out.ref
            obtain ⟨g2, cw, rfl, hcw, hcw2, -, c1, -⟩ := hmm.word (j := j) (by rw [HNN.out]; exact hjn)
            have b0 := hmm.blk.cell 0 _ rfl
            rw [HNN.out] at b0 hcw
            have HLK : Hid (Calls Try.prog 25 #[ptr B1, .int .i64 (j : Int)] wr.drew fun e w' => e = .returned (.int .u64 (s.ws.getD j 0)) ∧ wr.drew = w') := by
              have h := look_any (HT.out.next (Below.refl _ _).drew).mem (j : Int)
              have e : lookV s (j : Int) = s.ws.getD j 0 := by unfold lookV; rw [has_nat (by rw [HNN.out]; exact hjn), if_pos rfl, at_nat]
              rw [e] at h
              exact h
            have HT8 := Lib.hid (HT.out.next (Below.refl _ _).drew)
            clear hmm HT
            generalize s.ws.getD j 0 = zv at *
            go_wp2_with fail
            refine wp_region_held_drew (S := fun w' => w'.cell? ⟨B2, 0, none⟩ = some (.slice (some ⟨g2, 0, none⟩) N cw) ∧ w'.cell? ⟨g2, j, none⟩ = some (.int .u64 zv)) (by kernel_rfl) (⟨b0, c1⟩) (fun hH => ?_)
            refine wpAnyH_take (i := 0) (oi := ⟨some 176, _, _, _, _, _⟩) (v := ?v5101) rfl (by kernel_rfl) (by kernel_rfl) (by kernel_rfl) (fun _ _ _ h => h) (Or.inl ⟨rfl, ?c5101⟩) hH ?r5101
            case c5101 => (intro w' _; go_simp; (try with_reducible rfl))
            try simp only [Act.put, List.setIfInBounds_toArray, List.set_cons_zero, List.set_cons_succ]
            refine wpAnyH_take (i := 1) (oi := ⟨some 177, _, _, _, _, _⟩) (v := ?v5102) rfl (by kernel_rfl) (by kernel_rfl) (by kernel_rfl) (fun _ _ _ h => h) (Or.inl ⟨rfl, ?c5102⟩) hH ?r5102
            case c5102 => (intro w' _; go_simp; (try with_reducible rfl))
            try simp only [Act.put, List.setIfInBounds_toArray, List.set_cons_zero, List.set_cons_succ]
            refine wpAnyH_take (i := 3) (oi := ⟨some 179, _, _, _, _, _⟩) (v := ?v5103) rfl (by kernel_rfl) (by kernel_rfl) (by kernel_rfl) (fun _ _ _ h => h) (Or.inl ⟨rfl, ?c5103⟩) hH ?r5103
            case c5103 => (intro w' _; go_simp; (try with_reducible rfl))
            try simp only [Act.put, List.setIfInBounds_toArray, List.set_cons_zero, List.set_cons_succ]
            refine wpAnyH_take (i := 4) (oi := ⟨some 180, _, _, _, _, _⟩) (v := ?v5104) rfl (by kernel_rfl) (by kernel_rfl) (by kernel_rfl) (fun _ _ _ h => h) (Or.inl ⟨rfl, ?c5104⟩) hH ?r5104
            case c5104 => (intro w' _; go_simp; (try with_reducible rfl))
            try simp only [Act.put, List.setIfInBounds_toArray, List.set_cons_zero, List.set_cons_succ]
            refine wpAnyH_take (i := 5) (oi := ⟨some 181, _, _, _, _, _⟩) (v := ?v5105) rfl (by kernel_rfl) (by kernel_rfl) (by kernel_rfl) (fun _ _ _ h => h) (Or.inl ⟨rfl, ?c5105⟩) hH ?r5105
            case c5105 => (intro w' _; go_simp; (try with_reducible rfl))
            try simp only [Act.put, List.setIfInBounds_toArray, List.set_cons_zero, List.set_cons_succ]
            refine wpAnyH_take (i := 6) (oi := ⟨some 182, _, _, _, _, _⟩) (v := ?v5106) rfl (by kernel_rfl) (by kernel_rfl) (by kernel_rfl) (fun _ _ _ h => h) (Or.inl ⟨rfl, ?c5106⟩) hH ?r5106
            case c5106 => (intro w' hS; have zb := hS.1; have zc := hS.2; go_simp; (try with_reducible rfl))
            try simp only [Act.put, List.setIfInBounds_toArray, List.set_cons_zero, List.set_cons_succ]
            refine wpAnyH_take (i := 7) (oi := ⟨some 183, _, _, _, _, _⟩) (v := ?v5107) rfl (by kernel_rfl) (by kernel_rfl) (by kernel_rfl) (fun _ _ _ h => h) (Or.inl ⟨rfl, ?c5107⟩) hH ?r5107
            case c5107 => (intro w' _; go_simp; (try with_reducible rfl))
            try simp only [Act.put, List.setIfInBounds_toArray, List.set_cons_zero, List.set_cons_succ]
            refine wpAnyH_take (i := 8) (oi := ⟨some 184, _, _, _, _, _⟩) (v := ?v5108) rfl (by kernel_rfl) (by kernel_rfl) (by kernel_rfl) (fun _ _ _ h => h) (Or.inl ⟨rfl, ?c5108⟩) hH ?r5108
            case c5108 => (intro w' _; go_simp; (try with_reducible rfl))
            try simp only [Act.put, List.setIfInBounds_toArray, List.set_cons_zero, List.set_cons_succ]
            refine wpAnyH_take (i := 9) (oi := ⟨some 185, _, _, _, _, _⟩) (v := ?v5109) rfl (by kernel_rfl) (by kernel_rfl) (by kernel_rfl) (fun _ _ _ h => h) (Or.inl ⟨rfl, ?c5109⟩) hH ?r5109
            case c5109 => (intro w' hS; have zb := hS.1; have zc := hS.2; go_simp; (try with_reducible rfl))
            try simp only [Act.put, List.setIfInBounds_toArray, List.set_cons_zero, List.set_cons_succ]
            refine wpAnyH_ready (rs := [2]) (by kernel_rfl) (by simp) (AllReadyH.cons rfl (fun K hK => ?_) (AllReadyH.nil))
            go_simp
            go_at_call 25
            refine HLK.out.mono ?_
            rintro e w7 ⟨rfl, rfl⟩
            refine hK.out _ _ (hH) (fun hH => ?_)
            clear hK K
            try simp only [Act.put, List.setIfInBounds_toArray, List.set_cons_zero, List.set_cons_succ]
            refine wpAnyH_take (i := 10) (oi := ⟨some 186, _, _, _, _, _⟩) (v := ?v5110) rfl (by kernel_rfl) (by kernel_rfl) (by kernel_rfl) (fun _ _ _ h => h) (Or.inl ⟨rfl, ?c5110⟩) hH ?r5110
            case c5110 => (intro w' _; go_simp; (try simp only [bne_self_eq_false]); (try with_reducible rfl))
            try simp only [Act.put, List.setIfInBounds_toArray, List.set_cons_zero, List.set_cons_succ]
            refine wpAnyH_done (by kernel_rfl) ?_ _
            clear hH b0 c1
            go_wp2_with fail
            go_roundw
            case rel => exact ⟨j + 1, by go_num, by omega, HT8⟩
            case measure => simp [RowKit.intOf]; omega
          · obtain rfl : j = N := by omega
            obtain ⟨⟨vw, vh, vl, hmm⟩, -⟩ := HT.out.ref
            obtain ⟨Aw, cw, rfl, hcw, hcw2⟩ := hmm.len0
            have hal : Acs wr wr.heap.size vl s.ls := Rd.of_own hmm.lr
            obtain ⟨Al, cl, rfl, -, -⟩ := hmm.len2
            have b0 := hmm.blk.cell 0 _ rfl
            have b2 := hmm.blk.cell 2 _ rfl
            have HAL := Lib.hid hal
            have HB2L : Hid (∀ X, Tw W O1 O2 B1 B2 s s X → B2 < X.heap.size) := fun X h => h.ref.lt _ hmm.ob
            rw [HNN.out] at b0 hcw
            have HK1 : Hid (lookV s (-1) = 0) := by show _ = _; unfold lookV; rw [has_neg (by omega)]; rfl
            have HK2 : Hid (lookV s (j : Int) = 0) := by show _ = _; unfold lookV; rw [has_neg (by rw [HNN.out]; omega)]; rfl
            obtain ⟨Ll, hLl⟩ : ∃ L, s.ls.length = L := ⟨_, rfl⟩
            unfold Acs at hal
            rw [hLl] at b2
            have HAL : Hid (Acs wr wr.heap.size (.slice Al Ll cl) s.ls) := by show Rd _ _ _ _ _ _; rw [← hLl]; exact HAL.out
            clear hmm hal hLl
            go_wp2_with fail
            refine wp_region_held_drew (S := fun w' => w'.cell? ⟨B2, 0, none⟩ = some (.slice Aw j cw) ∧ w'.cell? ⟨B2, 2, none⟩ = some (.slice Al Ll cl) ∧ Hid (Tw W O1 O2 B1 B2 s s w') ∧ Hid (Acs w' w'.heap.size (.slice Al Ll cl) s.ls)) (by kernel_rfl) (⟨b0, b2, Lib.hid (HT.out.next (Below.refl _ _).drew), Lib.hid (HAL.out.next (Below.refl _ _).drew)⟩) (fun hH => ?_)
            refine wpAnyH_ready (rs := [0]) (by kernel_rfl) (by simp) (AllReadyH.cons rfl (fun K hK => ?_) (AllReadyH.nil))
            go_simp
            go_at_call 26
            refine (awake_any _).mono ?_
            rintro e w9 ⟨rfl, hb⟩
            refine hK.out _ _ (⟨(hb.cell (p := ⟨B2, 0, none⟩) (HB2L.out _ hH.2.2.1.out)).trans hH.1, (hb.cell (p := ⟨B2, 2, none⟩) (HB2L.out _ hH.2.2.1.out)).trans hH.2.1, Lib.hid (hH.2.2.1.out.next hb), Lib.hid (hH.2.2.2.out.next hb)⟩) (fun hH => ?_)
            clear hK K
            clear hb
            try simp only [Act.put, List.setIfInBounds_toArray, List.set_cons_zero, List.set_cons_succ]
            refine wpAnyH_take (i := 1) (oi := ⟨some 188, _, _, _, _, _⟩) (v := ?v5401) rfl (by kernel_rfl) (by kernel_rfl) (by kernel_rfl) (fun _ _ _ h => h) (Or.inl ⟨rfl, ?c5401⟩) hH ?r5401
            case c5401 => (intro w' _; go_simp; (try with_reducible rfl))
            try simp only [Act.put, List.setIfInBounds_toArray, List.set_cons_zero, List.set_cons_succ]
            refine wpAnyH_take (i := 2) (oi := ⟨some 189, _, _, _, _, _⟩) (v := ?v5402) rfl (by kernel_rfl) (by kernel_rfl) (by kernel_rfl) (fun _ _ _ h => h) (Or.inl ⟨rfl, ?c5402⟩) hH ?r5402
            case c5402 => (intro w' _; go_simp; (try with_reducible rfl))
            try simp only [Act.put, List.setIfInBounds_toArray, List.set_cons_zero, List.set_cons_succ]
            refine wpAnyH_take (i := 4) (oi := ⟨some 191, _, _, _, _, _⟩) (v := ?v5403) rfl (by kernel_rfl) (by kernel_rfl) (by kernel_rfl) (fun _ _ _ h => h) (Or.inl ⟨rfl, ?c5403⟩) hH ?r5403
            case c5403 => (intro w' _; go_simp; (try with_reducible rfl))
            try simp only [Act.put, List.setIfInBounds_toArray, List.set_cons_zero, List.set_cons_succ]
            refine wpAnyH_take (i := 5) (oi := ⟨some 192, _, _, _, _, _⟩) (v := ?v5404) rfl (by kernel_rfl) (by kernel_rfl) (by kernel_rfl) (fun _ _ _ h => h) (Or.inl ⟨rfl, ?c5404⟩) hH ?r5404
            case c5404 => (intro w' _; go_simp; (try with_reducible rfl))
            try simp only [Act.put, List.setIfInBounds_toArray, List.set_cons_zero, List.set_cons_succ]
            refine wpAnyH_take (i := 6) (oi := ⟨some 193, _, _, _, _, _⟩) (v := ?v5405) rfl (by kernel_rfl) (by kernel_rfl) (by kernel_rfl) (fun _ _ _ h => h) (Or.inl ⟨rfl, ?c5405⟩) hH ?r5405
            case c5405 => (intro w' _; go_simp; (try with_reducible rfl))
            try simp only [Act.put, List.setIfInBounds_toArray, List.set_cons_zero, List.set_cons_succ]
            refine wpAnyH_take (i := 7) (oi := ⟨some 194, _, _, _, _, _⟩) (v := ?v5406) rfl (by kernel_rfl) (by kernel_rfl) (by kernel_rfl) (fun _ _ _ h => h) (Or.inl ⟨rfl, ?c5406⟩) hH ?r5406
            case c5406 => (intro w' hS; have zb := hS.1; have zc := hS.2.1; go_simp; (try with_reducible rfl))
            try simp only [Act.put, List.setIfInBounds_toArray, List.set_cons_zero, List.set_cons_succ]
            refine wpAnyH_ready (rs := [3]) (by kernel_rfl) (by simp) (AllReadyH.cons rfl (fun K hK => ?_) (AllReadyH.nil))
            go_simp
            go_at_call 28
            refine (log_any hH.2.2.1.out.mem (by have := HN.out.2; omega)).mono ?_
            rintro e w10 ⟨v, rfl, hv1, -, hb⟩
            obtain ⟨A3, c3, rfl, -, -⟩ := hv1.len
            have HV := Lib.hid hv1
            refine hK.out _ _ (⟨(hb.cell (p := ⟨B2, 0, none⟩) (HB2L.out _ hH.2.2.1.out)).trans hH.1, (hb.cell (p := ⟨B2, 2, none⟩) (HB2L.out _ hH.2.2.1.out)).trans hH.2.1, Lib.hid (hH.2.2.1.out.next hb), Lib.hid (hH.2.2.2.out.next hb)⟩) (fun hH => ?_)
            clear hK K
            clear hb hv1
            try simp only [Act.put, List.setIfInBounds_toArray, List.set_cons_zero, List.set_cons_succ]
            refine wpAnyH_ready (rs := [8]) (by kernel_rfl) (by simp) (AllReadyH.cons rfl (fun K hK => ?_) (AllReadyH.nil))
            go_simp
            go_at_call 27
            refine (same_true _ _ s.ls _ HV.out hH.2.2.2.out).mono ?_
            rintro e w11 ⟨rfl, qq, rfl⟩
            have hb : Below w10.heap.size w10 (w10.drewN qq) := (Below.refl _ _).drews qq
            refine hK.out _ _ (⟨(hb.cell (p := ⟨B2, 0, none⟩) (HB2L.out _ hH.2.2.1.out)).trans hH.1, (hb.cell (p := ⟨B2, 2, none⟩) (HB2L.out _ hH.2.2.1.out)).trans hH.2.1, Lib.hid (hH.2.2.1.out.next hb), Lib.hid (hH.2.2.2.out.next hb)⟩) (fun hH => ?_)
            clear hK K
            clear hb HV
            try simp only [Act.put, List.setIfInBounds_toArray, List.set_cons_zero, List.set_cons_succ]
            refine wpAnyH_take (i := 9) (oi := ⟨some 196, _, _, _, _, _⟩) (v := ?v5407) rfl (by kernel_rfl) (by kernel_rfl) (by kernel_rfl) (fun _ _ _ h => h) (Or.inl ⟨rfl, ?c5407⟩) hH ?r5407
            case c5407 => (intro w' _; go_simp; (try with_reducible rfl))
            try simp only [Act.put, List.setIfInBounds_toArray, List.set_cons_zero, List.set_cons_succ]
            refine wpAnyH_take (i := 10) (oi := ⟨some 197, _, _, _, _, _⟩) (v := ?v5408) rfl (by kernel_rfl) (by kernel_rfl) (by kernel_rfl) (fun _ _ _ h => h) (Or.inl ⟨rfl, ?c5408⟩) hH ?r5408
            case c5408 => (intro w' _; go_simp; (try with_reducible rfl))
            try simp only [Act.put, List.setIfInBounds_toArray, List.set_cons_zero, List.set_cons_succ]
            refine wpAnyH_take (i := 11) (oi := ⟨some 198, _, _, _, _, _⟩) (v := ?v5409) rfl (by kernel_rfl) (by kernel_rfl) (by kernel_rfl) (fun _ _ _ h => h) (Or.inl ⟨rfl, ?c5409⟩) hH ?r5409
            case c5409 => (intro w' _; go_simp; (try with_reducible rfl))
            try simp only [Act.put, List.setIfInBounds_toArray, List.set_cons_zero, List.set_cons_succ]
            refine wpAnyH_ready (rs := [12]) (by kernel_rfl) (by simp) (AllReadyH.cons rfl (fun K hK => ?_) (AllReadyH.nil))
            go_simp
            go_at_call 25
            refine (look_any hH.2.2.1.out.mem (-1)).mono ?_
            rw [HK1.out]
            rintro e w12 ⟨rfl, rfl⟩
            refine hK.out _ _ (hH) (fun hH => ?_)
            clear hK K
            try simp only [Act.put, List.setIfInBounds_toArray, List.set_cons_zero, List.set_cons_succ]
            refine wpAnyH_take (i := 13) (oi := ⟨some 200, _, _, _, _, _⟩) (v := ?v5410) rfl (by kernel_rfl) (by kernel_rfl) (by kernel_rfl) (fun _ _ _ h => h) (Or.inl ⟨rfl, ?c5410⟩) hH ?r5410
            case c5410 => (intro w' _; go_simp; (try with_reducible rfl))
            try simp only [Act.put, List.setIfInBounds_toArray, List.set_cons_zero, List.set_cons_succ]
            refine wpAnyH_take (i := 14) (oi := ⟨some 201, _, _, _, _, _⟩) (v := ?v5411) rfl (by kernel_rfl) (by kernel_rfl) (by kernel_rfl) (fun _ _ _ h => h) (Or.inl ⟨rfl, ?c5411⟩) hH ?r5411
            case c5411 => (intro w' _; go_simp; (try with_reducible rfl))
            try simp only [Act.put, List.setIfInBounds_toArray, List.set_cons_zero, List.set_cons_succ]
            refine wpAnyH_take (i := 15) (oi := ⟨some 202, _, _, _, _, _⟩) (v := ?v5412) rfl (by kernel_rfl) (by kernel_rfl) (by kernel_rfl) (fun _ _ _ h => h) (Or.inl ⟨rfl, ?c5412⟩) hH ?r5412
            case c5412 => (intro w' _; go_simp; (try with_reducible rfl))
            try simp only [Act.put, List.setIfInBounds_toArray, List.set_cons_zero, List.set_cons_succ]
            refine wpAnyH_take (i := 16) (oi := ⟨some 203, _, _, _, _, _⟩) (v := ?v5413) rfl (by kernel_rfl) (by kernel_rfl) (by kernel_rfl) (fun _ _ _ h => h) (Or.inl ⟨rfl, ?c5413⟩) hH ?r5413
            case c5413 => (intro w' _; go_simp; (try with_reducible rfl))
            try simp only [Act.put, List.setIfInBounds_toArray, List.set_cons_zero, List.set_cons_succ]
            refine wpAnyH_take (i := 17) (oi := ⟨some 204, _, _, _, _, _⟩) (v := ?v5414) rfl (by kernel_rfl) (by kernel_rfl) (by kernel_rfl) (fun _ _ _ h => h) (Or.inl ⟨rfl, ?c5414⟩) hH ?r5414
            case c5414 => (intro w' _; go_simp; (try with_reducible rfl))
            try simp only [Act.put, List.setIfInBounds_toArray, List.set_cons_zero, List.set_cons_succ]
            refine wpAnyH_take (i := 18) (oi := ⟨some 205, _, _, _, _, _⟩) (v := ?v5415) rfl (by kernel_rfl) (by kernel_rfl) (by kernel_rfl) (fun _ _ _ h => h) (Or.inl ⟨rfl, ?c5415⟩) hH ?r5415
            case c5415 => (intro w' _; go_simp; (try with_reducible rfl))
            try simp only [Act.put, List.setIfInBounds_toArray, List.set_cons_zero, List.set_cons_succ]
            refine wpAnyH_take (i := 19) (oi := ⟨some 206, _, _, _, _, _⟩) (v := ?v5416) rfl (by kernel_rfl) (by kernel_rfl) (by kernel_rfl) (fun _ _ _ h => h) (Or.inl ⟨rfl, ?c5416⟩) hH ?r5416
            case c5416 => (intro w' _; go_simp; (try with_reducible rfl))
            try simp only [Act.put, List.setIfInBounds_toArray, List.set_cons_zero, List.set_cons_succ]
            refine wpAnyH_take (i := 20) (oi := ⟨some 207, _, _, _, _, _⟩) (v := ?v5417) rfl (by kernel_rfl) (by kernel_rfl) (by kernel_rfl) (fun _ _ _ h => h) (Or.inl ⟨rfl, ?c5417⟩) hH ?r5417
            case c5417 => (intro w' hS; have zb := hS.1; have zc := hS.2.1; go_simp; (try with_reducible rfl))
            try simp only [Act.put, List.setIfInBounds_toArray, List.set_cons_zero, List.set_cons_succ]
            refine wpAnyH_take (i := 21) (oi := ⟨some 208, _, _, _, _, _⟩) (v := ?v5418) rfl (by kernel_rfl) (by kernel_rfl) (by kernel_rfl) (fun _ _ _ h => h) (Or.inl ⟨rfl, ?c5418⟩) hH ?r5418
            case c5418 => (intro w' _; go_simp; (try with_reducible rfl))
            try simp only [Act.put, List.setIfInBounds_toArray, List.set_cons_zero, List.set_cons_succ]
            refine wpAnyH_ready (rs := [22]) (by kernel_rfl) (by simp) (AllReadyH.cons rfl (fun K hK => ?_) (AllReadyH.nil))
            go_simp
            go_at_call 25
            refine (look_any hH.2.2.1.out.mem (j : Int)).mono ?_
            rw [HK2.out]
            rintro e w12 ⟨rfl, rfl⟩
            refine hK.out _ _ (hH) (fun hH => ?_)
            clear hK K
            try simp only [Act.put, List.setIfInBounds_toArray, List.set_cons_zero, List.set_cons_succ]
            refine wpAnyH_take (i := 23) (oi := ⟨some 210, _, _, _, _, _⟩) (v := ?v5419) rfl (by kernel_rfl) (by kernel_rfl) (by kernel_rfl) (fun _ _ _ h => h) (Or.inl ⟨rfl, ?c5419⟩) hH ?r5419
            case c5419 => (intro w' _; go_simp; (try with_reducible rfl))
            try simp only [Act.put, List.setIfInBounds_toArray, List.set_cons_zero, List.set_cons_succ]
            refine wpAnyH_take (i := 24) (oi := ⟨some 211, _, _, _, _, _⟩) (v := ?v5420) rfl (by kernel_rfl) (by kernel_rfl) (by kernel_rfl) (fun _ _ _ h => h) (Or.inl ⟨rfl, ?c5420⟩) hH ?r5420
            case c5420 => (intro w' _; go_simp; (try with_reducible rfl))
            try simp only [Act.put, List.setIfInBounds_toArray, List.set_cons_zero, List.set_cons_succ]
            refine wpAnyH_take (i := 25) (oi := ⟨some 6, _, _, _, _, _⟩) (v := ?v5421) rfl (by kernel_rfl) (by kernel_rfl) (by kernel_rfl) (fun _ _ _ h => h) (Or.inl ⟨rfl, ?c5421⟩) hH ?r5421
            case c5421 => (intro w' _; go_simp; (try with_reducible rfl))
            try simp only [Act.put, List.setIfInBounds_toArray, List.set_cons_zero, List.set_cons_succ]
            refine wpAnyH_done (by kernel_rfl) ?_ _
            have HBB := Lib.hid hH.2.2.1.out.bel
            clear hH
            go_wp2_with fail
            go_ret
            exact ⟨rfl, HBB.out⟩
end Me
end Go.Proofs.Ytbikbccmnmbkfaa
