/- Layer 19: the walk of MemSwaps. -/
import Derived.Test.YtbikbccmnmbkfaaMemQ
set_option linter.unusedVariables false
set_option linter.unusedSimpArgs false
set_option maxRecDepth 100000
namespace Go.Proofs.Ytbikbccmnmbkfaa
open Go.ChangeShapes Go.WideShapes Go.ChangeAt Go.RowKit Go.Mtl Go.Lib
namespace Me
open MemM
/-- A memory of one word. -/
theorem load_one {s : Ms} {d : Int} (h : s.ws = [d]) (t : Int) : lookV s 0 = d ∧ (loadS s t 0).ws = [d] ∧ (loadS s t 0).ls.length ≤ s.ls.length + 1 := by
  have e : has s.ws.length 0 = true := by rw [h]; rfl
  unfold lookV loadS
  rw [e]
  exact ⟨by rw [h]; rfl, by simp [say, h], by simp [say]⟩
theorem swap_one {s : Ms} {d : Int} (h : s.ws = [d]) (t old now : Int) : swapB s 0 old = (d == old) ∧ (swapS s t 0 old now).ws = [if d = old then now else d] ∧ (swapS s t 0 old now).ls.length ≤ s.ls.length + 1 := by
  have e : has s.ws.length 0 = true := by rw [h]; rfl
  have e2 : at_ s.ws 0 = d := by rw [h]; rfl
  unfold swapB swapS
  rw [e, e2]
  refine ⟨rfl, ?_, ?_⟩
  · rw [if_pos rfl]
    split
    · simp [say, h]
    · simp [say, h]
  · rw [if_pos rfl]
    split
    · simp [say]
    · simp [say]
abbrev four (f : Nat → Int) : Array Value := #[.int .u64 (f 0), .int .u64 (f 1), .int .u64 (f 2), .int .u64 (f 3)]
theorem four_at (f : Nat → Int) {i : Nat} (h : i < 4) : (four f)[i]? = some (.int .u64 (f i)) := by
  obtain rfl | rfl | rfl | rfl : i = 0 ∨ i = 1 ∨ i = 2 ∨ i = 3 := by omega
  all_goals rfl
def up (f : Nat → Int) (i : Nat) (x : Int) : Nat → Int := fun j => if j = i then x else f j
theorem four_set (f : Nat → Int) {i : Nat} (h : i < 4) (x : Int) : (four f).setIfInBounds i (.int .u64 x) = four (up f i x) := by
  obtain rfl | rfl | rfl | rfl : i = 0 ∨ i = 1 ∨ i = 2 ∨ i = 3 := by omega
  all_goals rfl
set_option maxHeartbeats 8000000 in
theorem memSwaps_walk (A : Option Addr) (len cap : Nat) (rs : List (List Int)) (W : World) (hd : rs.length = len ∧ Sts W W.heap.size dk (.slice A len cap) rs ∧ ∀ r ∈ rs, Fits dk r) :
    Calls Try.prog 5 #[.slice A len cap] W fun e w' => e = .returned (.bool true) ∧ Below W.heap.size W w' := by
  obtain ⟨hl, hst, hft⟩ := hd
  obtain ⟨A', c', ee, hcl, hcc⟩ := hst.len
  injection ee with ea el ec
  subst ea ec
  rw [hl] at hcl
  have HST := Lib.hid hst
  have HFT := Lib.hid hft
  have HL := Lib.hid hl
  clear hst hft hl el
  go_enter Try.func5, Try.ntmps5
  go_wp2_with fail
  go_at_call 7
  refine (new_any 1 0 _).mono ?_
  rintro e w0 ⟨O, B, rfl, hmm, hb, hO⟩
  have H0 : Hid (Hm W O B (newS 1 0) w0) := ⟨hmm, hb, hO⟩
  clear hmm hb hO
  obtain ⟨g, hg⟩ : ∃ g, g = w0.heap.size := ⟨_, rfl⟩
  have HX0 : Hid (Blk (w0.alloc (.cells (four fun _ => 0) 53)) g (four fun _ => 0) 53) := by show Blk _ _ _ _; rw [hg]; exact Blk.box _ _ _
  have H1 := Lib.hid (H0.out.next (below_box w0 (.cells (four fun _ => 0) 53)))
  have HNG0 : Hid (∀ j, O j → j ≠ g) := fun j hj e => by have := H0.out.mem.lt j hj; omega
  have HGW0 : Hid (W.heap.size ≤ g) := by show _ ≤ _; rw [hg]; exact H0.out.bel.size
  go_wp2_with fail
  rw [← hg]
  clear H0 hg
  go_loopw [5, 6] (fun vd vi wr => ∃ (i d : Nat) (O : Nat → Prop) (s : Ms) (f : Nat → Int), vi = .int .i64 (i : Int) ∧ vd = .int .u64 (d : Int) ∧ i ≤ len ∧ i ≤ 120 ∧ d ≤ i ∧ Hid (Hm W O B s wr) ∧ Hid (s.ws = [(d : Int)] ∧ s.ls.length ≤ i) ∧ Hid (Blk wr g (four f) 53) ∧ Hid (∀ j, 0 ≤ f j ∧ f j ≤ i) ∧ Hid (∀ j, O j → j ≠ g)) (fun _ vi _ => 120 - (RowKit.intOf vi).toNat)
  case atStart => exact ⟨0, 0, O, _, fun _ => 0, rfl, rfl, by omega, by omega, by omega, H1, ⟨rfl, Nat.le_refl _⟩, HX0, fun _ => ⟨by simp, by simp⟩, HNG0⟩
  case round =>
    clear H1 HX0 HNG0
    obtain ⟨i, d, O, s, f, rfl, rfl, hi1, hi2, hdi, HM, HI, HX, HF, HNG⟩ := hrel
    by_cases h1 : i < len
    · by_cases h2 : i < 120
      · obtain ⟨k, t0, a, o, n, b, off, c, ⟨k0, -, -, -, -⟩, ev, -, -, hb, x0, -, -, -, -⟩ := do_at (HST.out.below HM.out.bel) HFT.out HL.out h1
        injection ev with ev _ ec
        subst ev ec
        obtain ⟨k0, k1⟩ := k0
        obtain ⟨t, ht⟩ : ∃ t : Nat, k % 4 = (t : Int) := ⟨(k % 4).toNat, by omega⟩
        have ht4 : t < 4 := by omega
        clear hb
        by_cases h8 : k % 8 < 4
        · have hLV := load_one HI.out.1 t
          have HLV := Lib.hid hLV.1
          have HL2 := Lib.hid hLV.2
          clear hLV
          go_wp2_with fail
          go_at_call 11
          refine (load_any HM.out.mem (t : Int) 0 (by have := HI.out.2; omega)).mono ?_
          intro e w2 hd
          rw [HLV.out] at hd
          obtain ⟨O2, rfl, hh, ho2, hO2⟩ := HM.out.does2 hd
          have HX2 := Lib.hid (Blk.only HX.out ho2 (fun e => HNG.out _ e rfl))
          have HNG2 : Hid (∀ j, O2 j → j ≠ g) := fun j hj => (hO2 j hj).elim (HNG.out j) (fun h => Nat.ne_of_gt (Nat.lt_of_lt_of_le HX.out.lt h))
          have HH2 : Hid (Hm W O2 B (loadS s t 0) (w2.setCell ⟨g, t, none⟩ (.int .u64 (d : Int)))) := hh.store (fun e => HNG2.out _ e rfl) HGW0.out t _
          have HX3 : Hid (Blk (w2.setCell ⟨g, t, none⟩ (.int .u64 (d : Int))) g (four (up f t d)) 53) := HX2.out.set' t _ (four_set f ht4 _)
          have y0 := HX2.out.cell t _ (four_at f ht4)
          have y1 := HX2.out.frozen t
          have d1 : ((d : Int) != (d : Int)) = false := by simp
          clear hh ho2 hO2 hd x0
          go_wp2_with fail
          go_roundw
          case rel => exact ⟨i + 1, d, O2, loadS s t 0, up f t d, by go_num, rfl, by omega, by omega, by omega, HH2, ⟨HL2.out.1, Nat.le_trans HL2.out.2 (by have := HI.out.2; omega)⟩, HX3, fun j => by unfold up; have := HF.out j; split <;> omega, HNG2⟩
          case measure => simp [RowKit.intOf]; omega
        · have HU : Hid (IntKind.u64.wrap (f t + 1) = f t + 1) := by
            show _ = _
            have := HF.out t
            exact IntWalk.u64_in _ (by omega)
          have hSV := swap_one HI.out.1 t (f t) (f t + 1)
          have HS3 := Lib.hid hSV.2.2
          have hs1 := hSV.1
          have hs2 := hSV.2.1
          have HMD := Lib.hid (HM.out.next (Below.refl _ wr).drew)
          have HXD := Lib.hid HX.out.drew
          have c0 : wr.drew.cell? ⟨g, t, none⟩ = some (.int .u64 (f t)) := HXD.out.cell t _ (four_at f ht4)
          clear hSV
          by_cases hfd : (d : Int) = f t
          · rw [if_pos hfd] at hs2
            have HS1 : Hid (swapB s 0 (f t) = true) := by show _ = _; rw [hs1]; simpa using hfd
            have HS2 : Hid ((swapS s t 0 (f t) (f t + 1)).ws = [((d + 1 : Nat) : Int)]) := by show _ = _; rw [hs2, ← hfd]; rfl
            have d1 : (f t == (d : Int)) = true := by simpa using hfd.symm
            clear hs1 hs2 hfd
            go_wp2_with fail
            refine wp_region_held_drew (S := fun w' => w'.cell? ⟨g, t, none⟩ = some (.int .u64 (f t))) (by kernel_rfl) (c0) (fun hH => ?_)
            refine wpAnyH_take (i := 0) (oi := ⟨some 45, _, _, _, _, _⟩) (v := ?v101) rfl (by kernel_rfl) (by kernel_rfl) (by kernel_rfl) (fun _ _ _ h => h) (Or.inl ⟨rfl, ?c101⟩) hH ?r101
            case c101 => (intro w' _; go_simp; (try with_reducible rfl))
            try simp only [Act.put, List.setIfInBounds_toArray, List.set_cons_zero, List.set_cons_succ]
            refine wpAnyH_take (i := 1) (oi := ⟨some 46, _, _, _, _, _⟩) (v := ?v102) rfl (by kernel_rfl) (by kernel_rfl) (by kernel_rfl) (fun _ _ _ h => h) (Or.inl ⟨rfl, ?c102⟩) hH ?r102
            case c102 => (intro w' _; go_simp; (try with_reducible rfl))
            try simp only [Act.put, List.setIfInBounds_toArray, List.set_cons_zero, List.set_cons_succ]
            refine wpAnyH_take (i := 2) (oi := ⟨some 47, _, _, _, _, _⟩) (v := ?v103) rfl (by kernel_rfl) (by kernel_rfl) (by kernel_rfl) (fun _ _ _ h => h) (Or.inl ⟨rfl, ?c103⟩) hH ?r103
            case c103 => (intro w' _; go_simp; (try with_reducible rfl))
            try simp only [Act.put, List.setIfInBounds_toArray, List.set_cons_zero, List.set_cons_succ]
            refine wpAnyH_take (i := 3) (oi := ⟨some 48, _, _, _, _, _⟩) (v := ?v104) rfl (by kernel_rfl) (by kernel_rfl) (by kernel_rfl) (fun _ _ _ h => h) (Or.inl ⟨rfl, ?c104⟩) hH ?r104
            case c104 => (intro w' _; go_simp; rw [if_pos (by omega)])
            try simp only [Act.put, List.setIfInBounds_toArray, List.set_cons_zero, List.set_cons_succ]
            refine wpAnyH_take (i := 4) (oi := ⟨some 49, _, _, _, _, _⟩) (v := ?v105) rfl (by kernel_rfl) (by kernel_rfl) (by kernel_rfl) (fun _ _ _ h => h) (Or.inl ⟨rfl, ?c105⟩) hH ?r105
            case c105 => (intro w' hS; (try dsimp only at hS); go_simp; (try with_reducible rfl))
            try simp only [Act.put, List.setIfInBounds_toArray, List.set_cons_zero, List.set_cons_succ]
            refine wpAnyH_take (i := 5) (oi := ⟨some 50, _, _, _, _, _⟩) (v := ?v106) rfl (by kernel_rfl) (by kernel_rfl) (by kernel_rfl) (fun _ _ _ h => h) (Or.inl ⟨rfl, ?c106⟩) hH ?r106
            case c106 => (intro w' _; go_simp; (try with_reducible rfl))
            try simp only [Act.put, List.setIfInBounds_toArray, List.set_cons_zero, List.set_cons_succ]
            refine wpAnyH_take (i := 6) (oi := ⟨some 51, _, _, _, _, _⟩) (v := ?v107) rfl (by kernel_rfl) (by kernel_rfl) (by kernel_rfl) (fun _ _ _ h => h) (Or.inl ⟨rfl, ?c107⟩) hH ?r107
            case c107 => (intro w' _; go_simp; rw [if_pos (by omega)])
            try simp only [Act.put, List.setIfInBounds_toArray, List.set_cons_zero, List.set_cons_succ]
            refine wpAnyH_take (i := 7) (oi := ⟨some 52, _, _, _, _, _⟩) (v := ?v108) rfl (by kernel_rfl) (by kernel_rfl) (by kernel_rfl) (fun _ _ _ h => h) (Or.inl ⟨rfl, ?c108⟩) hH ?r108
            case c108 => (intro w' hS; (try dsimp only at hS); go_simp; (try with_reducible rfl))
            try simp only [Act.put, List.setIfInBounds_toArray, List.set_cons_zero, List.set_cons_succ]
            refine wpAnyH_take (i := 8) (oi := ⟨some 53, _, _, _, _, _⟩) (v := ?v109) rfl (by kernel_rfl) (by kernel_rfl) (by kernel_rfl) (fun _ _ _ h => h) (Or.inl ⟨rfl, ?c109⟩) hH ?r109
            case c109 => (intro w' _; go_simp; rw [HU.out])
            try simp only [Act.put, List.setIfInBounds_toArray, List.set_cons_zero, List.set_cons_succ]
            refine wpAnyH_ready (rs := [9]) (by kernel_rfl) (by simp) (AllReadyH.cons rfl (fun K hK => ?_) (AllReadyH.nil))
            go_simp
            go_at_call 13
            refine (swap_any HMD.out.mem (t : Int) 0 (f t) (f t + 1) (by have := HF.out t; omega) (by have := HI.out.2; omega)).mono ?_
            intro e w2 hd
            rw [HS1.out] at hd
            obtain ⟨O2, rfl, hh, ho2, hO2⟩ := HMD.out.does2 hd
            have HX2 := Lib.hid (Blk.only HXD.out ho2 (fun e => HNG.out _ e rfl))
            have HH2 := Lib.hid hh
            have HNG2 : Hid (∀ j, O2 j → j ≠ g) := fun j hj => (hO2 j hj).elim (HNG.out j) (fun h => Nat.ne_of_gt (Nat.lt_of_lt_of_le HXD.out.lt h))
            refine hK.out _ _ (HX2.out.cell t _ (four_at f ht4)) (fun hH => ?_)
            clear hK K
            clear hh ho2 hO2 hd
            try simp only [Act.put, List.setIfInBounds_toArray, List.set_cons_zero, List.set_cons_succ]
            refine wpAnyH_take (i := 10) (oi := ⟨some 8, _, _, _, _, _⟩) (v := ?v110) rfl (by kernel_rfl) (by kernel_rfl) (by kernel_rfl) (fun _ _ _ h => h) (Or.inl ⟨rfl, ?c110⟩) hH ?r110
            case c110 => (intro w' _; go_simp; (try with_reducible rfl))
            try simp only [Act.put, List.setIfInBounds_toArray, List.set_cons_zero, List.set_cons_succ]
            refine wpAnyH_done (by kernel_rfl) ?_ _
            have y0 := HX2.out.cell t _ (four_at f ht4)
            clear hH
            go_wp2_with fail
            go_roundw
            case rel => exact ⟨i + 1, d + 1, O2, swapS s t 0 (f t) (f t + 1), f, by go_num, by go_num, by omega, by omega, by omega, HH2, ⟨HS2.out, Nat.le_trans HS3.out (by have := HI.out.2; omega)⟩, HX2, fun j => by have := HF.out j; omega, HNG2⟩
            case measure => simp [RowKit.intOf]; omega
          · rw [if_neg hfd] at hs2
            have HS1 : Hid (swapB s 0 (f t) = false) := by show _ = _; rw [hs1]; simpa using hfd
            have HS2 : Hid ((swapS s t 0 (f t) (f t + 1)).ws = [(d : Int)]) := by show _ = _; rw [hs2]
            have d1 : (f t == (d : Int)) = false := by rw [beq_eq_false_iff_ne]; exact fun e => hfd e.symm
            clear hs1 hs2 hfd
            go_wp2_with fail
            refine wp_region_held_drew (S := fun w' => w'.cell? ⟨g, t, none⟩ = some (.int .u64 (f t))) (by kernel_rfl) (c0) (fun hH => ?_)
            refine wpAnyH_take (i := 0) (oi := ⟨some 45, _, _, _, _, _⟩) (v := ?v201) rfl (by kernel_rfl) (by kernel_rfl) (by kernel_rfl) (fun _ _ _ h => h) (Or.inl ⟨rfl, ?c201⟩) hH ?r201
            case c201 => (intro w' _; go_simp; (try with_reducible rfl))
            try simp only [Act.put, List.setIfInBounds_toArray, List.set_cons_zero, List.set_cons_succ]
            refine wpAnyH_take (i := 1) (oi := ⟨some 46, _, _, _, _, _⟩) (v := ?v202) rfl (by kernel_rfl) (by kernel_rfl) (by kernel_rfl) (fun _ _ _ h => h) (Or.inl ⟨rfl, ?c202⟩) hH ?r202
            case c202 => (intro w' _; go_simp; (try with_reducible rfl))
            try simp only [Act.put, List.setIfInBounds_toArray, List.set_cons_zero, List.set_cons_succ]
            refine wpAnyH_take (i := 2) (oi := ⟨some 47, _, _, _, _, _⟩) (v := ?v203) rfl (by kernel_rfl) (by kernel_rfl) (by kernel_rfl) (fun _ _ _ h => h) (Or.inl ⟨rfl, ?c203⟩) hH ?r203
            case c203 => (intro w' _; go_simp; (try with_reducible rfl))
            try simp only [Act.put, List.setIfInBounds_toArray, List.set_cons_zero, List.set_cons_succ]
            refine wpAnyH_take (i := 3) (oi := ⟨some 48, _, _, _, _, _⟩) (v := ?v204) rfl (by kernel_rfl) (by kernel_rfl) (by kernel_rfl) (fun _ _ _ h => h) (Or.inl ⟨rfl, ?c204⟩) hH ?r204
            case c204 => (intro w' _; go_simp; rw [if_pos (by omega)])
            try simp only [Act.put, List.setIfInBounds_toArray, List.set_cons_zero, List.set_cons_succ]
            refine wpAnyH_take (i := 4) (oi := ⟨some 49, _, _, _, _, _⟩) (v := ?v205) rfl (by kernel_rfl) (by kernel_rfl) (by kernel_rfl) (fun _ _ _ h => h) (Or.inl ⟨rfl, ?c205⟩) hH ?r205
            case c205 => (intro w' hS; (try dsimp only at hS); go_simp; (try with_reducible rfl))
            try simp only [Act.put, List.setIfInBounds_toArray, List.set_cons_zero, List.set_cons_succ]
            refine wpAnyH_take (i := 5) (oi := ⟨some 50, _, _, _, _, _⟩) (v := ?v206) rfl (by kernel_rfl) (by kernel_rfl) (by kernel_rfl) (fun _ _ _ h => h) (Or.inl ⟨rfl, ?c206⟩) hH ?r206
            case c206 => (intro w' _; go_simp; (try with_reducible rfl))
            try simp only [Act.put, List.setIfInBounds_toArray, List.set_cons_zero, List.set_cons_succ]
            refine wpAnyH_take (i := 6) (oi := ⟨some 51, _, _, _, _, _⟩) (v := ?v207) rfl (by kernel_rfl) (by kernel_rfl) (by kernel_rfl) (fun _ _ _ h => h) (Or.inl ⟨rfl, ?c207⟩) hH ?r207
            case c207 => (intro w' _; go_simp; rw [if_pos (by omega)])
            try simp only [Act.put, List.setIfInBounds_toArray, List.set_cons_zero, List.set_cons_succ]
            refine wpAnyH_take (i := 7) (oi := ⟨some 52, _, _, _, _, _⟩) (v := ?v208) rfl (by kernel_rfl) (by kernel_rfl) (by kernel_rfl) (fun _ _ _ h => h) (Or.inl ⟨rfl, ?c208⟩) hH ?r208
            case c208 => (intro w' hS; (try dsimp only at hS); go_simp; (try with_reducible rfl))
            try simp only [Act.put, List.setIfInBounds_toArray, List.set_cons_zero, List.set_cons_succ]
            refine wpAnyH_take (i := 8) (oi := ⟨some 53, _, _, _, _, _⟩) (v := ?v209) rfl (by kernel_rfl) (by kernel_rfl) (by kernel_rfl) (fun _ _ _ h => h) (Or.inl ⟨rfl, ?c209⟩) hH ?r209
            case c209 => (intro w' _; go_simp; rw [HU.out])
            try simp only [Act.put, List.setIfInBounds_toArray, List.set_cons_zero, List.set_cons_succ]
            refine wpAnyH_ready (rs := [9]) (by kernel_rfl) (by simp) (AllReadyH.cons rfl (fun K hK => ?_) (AllReadyH.nil))
            go_simp
            go_at_call 13
            refine (swap_any HMD.out.mem (t : Int) 0 (f t) (f t + 1) (by have := HF.out t; omega) (by have := HI.out.2; omega)).mono ?_
            intro e w2 hd
            rw [HS1.out] at hd
            obtain ⟨O2, rfl, hh, ho2, hO2⟩ := HMD.out.does2 hd
            have HX2 := Lib.hid (Blk.only HXD.out ho2 (fun e => HNG.out _ e rfl))
            have HH2 := Lib.hid hh
            have HNG2 : Hid (∀ j, O2 j → j ≠ g) := fun j hj => (hO2 j hj).elim (HNG.out j) (fun h => Nat.ne_of_gt (Nat.lt_of_lt_of_le HXD.out.lt h))
            refine hK.out _ _ (HX2.out.cell t _ (four_at f ht4)) (fun hH => ?_)
            clear hK K
            clear hh ho2 hO2 hd
            try simp only [Act.put, List.setIfInBounds_toArray, List.set_cons_zero, List.set_cons_succ]
            refine wpAnyH_take (i := 10) (oi := ⟨some 8, _, _, _, _, _⟩) (v := ?v210) rfl (by kernel_rfl) (by kernel_rfl) (by kernel_rfl) (fun _ _ _ h => h) (Or.inl ⟨rfl, ?c210⟩) hH ?r210
            case c210 => (intro w' _; go_simp; (try with_reducible rfl))
            try simp only [Act.put, List.setIfInBounds_toArray, List.set_cons_zero, List.set_cons_succ]
            refine wpAnyH_done (by kernel_rfl) ?_ _
            have y0 := HX2.out.cell t _ (four_at f ht4)
            clear hH
            go_wp2_with fail
            go_roundw
            case rel => exact ⟨i + 1, d, O2, swapS s t 0 (f t) (f t + 1), f, by go_num, rfl, by omega, by omega, by omega, HH2, ⟨HS2.out, Nat.le_trans HS3.out (by have := HI.out.2; omega)⟩, HX2, fun j => by have := HF.out j; omega, HNG2⟩
            case measure => simp [RowKit.intOf]; omega
      · have hlv := load_one HI.out.1 9
        have HLV := Lib.hid hlv.1
        have d1 : ((d : Int) == (d : Int)) = true := by simp
        clear hlv
        go_wp2_with fail
        go_at_call 26
        refine (awake_any _).mono ?_
        rintro e w5 ⟨rfl, hb⟩
        have HM5 := Lib.hid (HM.out.next hb)
        clear hb
        go_wp2_with fail
        go_at_call 11
        refine (load_any HM5.out.mem 9 0 (by have := HI.out.2; omega)).mono ?_
        intro e w6 hd
        rw [HLV.out] at hd
        obtain ⟨O2, rfl, hh, -, -⟩ := HM5.out.does2 hd
        have HB6 := Lib.hid hh.bel
        clear hh hd
        go_wp2_with fail
        go_ret
        exact ⟨rfl, HB6.out⟩
    · have hlv := load_one HI.out.1 9
      have HLV := Lib.hid hlv.1
      have d1 : ((d : Int) == (d : Int)) = true := by simp
      clear hlv
      go_wp2_with fail
      go_at_call 26
      refine (awake_any _).mono ?_
      rintro e w5 ⟨rfl, hb⟩
      have HM5 := Lib.hid (HM.out.next hb)
      clear hb
      go_wp2_with fail
      go_at_call 11
      refine (load_any HM5.out.mem 9 0 (by have := HI.out.2; omega)).mono ?_
      intro e w6 hd
      rw [HLV.out] at hd
      obtain ⟨O2, rfl, hh, -, -⟩ := HM5.out.does2 hd
      have HB6 := Lib.hid hh.bel
      clear hh hd
      go_wp2_with fail
      go_ret
      exact ⟨rfl, HB6.out⟩
end Me
end Go.Proofs.Ytbikbccmnmbkfaa
