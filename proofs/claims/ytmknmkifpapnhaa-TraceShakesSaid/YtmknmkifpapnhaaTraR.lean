/- Layer 16: the walk of TraceShakes. -/
import Derived.Test.YtmknmkifpapnhaaTraP
import Derived.Deep.RegionHeld
set_option linter.unusedVariables false
set_option linter.unusedSimpArgs false
namespace Go.Proofs.Ytmknmkifpapnhaa
open Go.ChangeShapes Go.WideShapes Go.ChangeAt Go.RowKit Go.Mtl Go.Lib
namespace Tr
open TraM (Step find kindN stN stB nextN nextB openN openB bitB refN refB nxN nxB ansB shkB goodS)

theorem shakes_at {s : Int} (h : 1 ≤ s ∧ s ≤ 7) (r a k : Bool) {f : Nat} (hf : f < 64) (hg : goodS s a k = true) (hn : nextB s r f = true) : goodS (nextN s r f) (ansB a r f) (shkB (ansB a r f) k r f) = true := by
  obtain ⟨m, rfl⟩ : ∃ m : Nat, s = (m : Int) := ⟨s.toNat, by omega⟩
  exact TraM.shakes_in ⟨m, by omega⟩ r a k ⟨f, hf⟩ hg hn
theorem good_in {s : Int} {a k : Bool} (h : goodS s a k = true) : 1 ≤ s ∧ s ≤ 7 := by
  unfold goodS at h
  simp only [Bool.and_eq_true, decide_eq_true_eq] at h
  exact ⟨h.1.1.1, h.1.1.2⟩
theorem good_fin {s : Int} {a k g3 g6 g2 : Bool} (h : goodS s a k = true) (h3 : decide (s ≥ 3) = g3) (h6 : decide (s ≤ 6) = g6) (h2 : (s == 2) = g2) : ((k || !(g3 && g6)) && (a || !g2)) = true := by
  have e : decide (s = 2) = g2 := by rw [← h2]; rfl
  unfold goodS at h
  rw [show decide (3 ≤ s) = g3 from h3, h6, e] at h
  simp only [Bool.and_eq_true] at h ⊢
  exact ⟨h.1.2, h.2⟩

set_option maxRecDepth 8000 in
set_option maxHeartbeats 8000000 in
theorem traceShakes_walk (A : Option Addr) (n c : Nat) (bs : List UInt8) (W : World) (h0 : Bts W W.heap.size A n bs) (l0 : n ≤ c) (m0 : c ≤ maxLen) :
    Calls Try.prog 5 #[.slice A n c] W fun e w' => e = .returned (.bool true) ∧ Below W.heap.size W w' := by
  unfold maxLen at m0
  have H0 := Lib.hid h0
  have HB0 := Lib.hid (Below.refl W.heap.size W)
  have HG0 : Hid (goodS 1 false false = true) := Lib.hid (by decide)
  clear h0
  go_enter Try.func5, Try.ntmps5
  go_wp2_with fail
  go_at_call 6
  refine (open_aw _).mono ?_
  rintro e W ⟨rfl, rfl⟩
  go_wp2_with fail
  go_loopw [3, 5, 6, 7] (fun x u v i wr => ∃ (j : Nat) (s : Int) (a k : Bool), x = .int .i64 s ∧ u = .bool a ∧ v = .bool k ∧ i = .int .i64 (j : Int) ∧ j ≤ n ∧ j ≤ 200 ∧ Hid (goodS s a k = true) ∧ Hid (Below W.heap.size W wr)) (fun _ _ _ i _ => 200 - (RowKit.intOf i).toNat)
  case atStart => exact ⟨0, 1, false, false, rfl, rfl, rfl, rfl, by omega, by omega, HG0, HB0⟩
  case round =>
    obtain ⟨j, s, a, k, rfl, rfl, rfl, rfl, hj, hj2, HG, HB⟩ := hrel
    by_cases h1 : j < n
    · by_cases h2 : j < 200
      · obtain ⟨b1, o1, rfl, q1, z1⟩ := (H0.out.below HB.out).at_ (by omega)
        have x1 := z1 j h1
        clear z1
        have y1 := byt_lt bs j
        generalize byt bs j = f at x1 y1
        have a64 : bits .and .u8 (f : Int) 64 = ((f &&& 64 : Nat) : Int) := and_u8 f 64 y1 (by omega)
        have a63 : bits .and .u8 (f : Int) 63 = ((f &&& 63 : Nat) : Int) := and_u8 f 63 y1 (by omega)
        obtain ⟨r, hr⟩ : ∃ r : Bool, (((f &&& 64 : Nat) : Int) == 64) = r := ⟨_, rfl⟩
        have hf6 : f &&& 63 < 64 := by have := Nat.and_le_right (n := f) (m := 63); omega
        generalize f &&& 63 = g at a63 hf6
        have a23 : bits .and .u8 (g : Int) 23 = ((g &&& 23 : Nat) : Int) := and_u8 g 23 (by omega) (by omega)
        have a22 : bits .and .u8 (g : Int) 22 = ((g &&& 22 : Nat) : Int) := and_u8 g 22 (by omega) (by omega)
        have HX := Lib.hid (next_any s r g (by have := good_in HG.out; omega) (by omega))
        have HI := Lib.hid (shakes_at (good_in HG.out) r a k hf6 HG.out)
        generalize nextN s r g = nn at HX HI
        generalize nextB s r g = nb at HX HI
        obtain ⟨q, hq⟩ : ∃ q, decide (g &&& 23 = 18) = q := ⟨_, rfl⟩
        obtain ⟨p, hp⟩ : ∃ p, decide (g &&& 22 = 16) = p := ⟨_, rfl⟩
        have hq2 : (((g &&& 23 : Nat) : Int) == 18) = q := by rw [← hq, Bool.eq_iff_iff, beq_iff_eq, decide_eq_true_eq]; omega
        have hp2 : (((g &&& 22 : Nat) : Int) == 16) = p := by rw [← hp, Bool.eq_iff_iff, beq_iff_eq, decide_eq_true_eq]; omega
        unfold shkB ansB at HI
        rw [hq, hp] at HI
        clear hq hp hf6 y1
        cases nb
        · clear HI
          go_wp2_with fail
          refine wp_region_held_drew (S := fun w' => w'.cell? ⟨b1, o1 + j, none⟩ = some (.int .u8 (f : Int)) ∧ Hid (Below W.heap.size W w')) (by kernel_rfl) (⟨x1, Lib.hid HB.out.drew⟩) (fun hH => ?_)
          refine wpAnyH_take (i := 0) (oi := ⟨some 26, _, _, _, _, _⟩) (v := ?v69) rfl (by kernel_rfl) (by kernel_rfl) (by kernel_rfl) (fun _ _ _ h => h) (Or.inl ⟨rfl, ?c69⟩) hH ?r69
          case c69 => (intro w' _; go_simp; (try with_reducible rfl))
          try simp only [Act.put, List.setIfInBounds_toArray, List.set_cons_zero, List.set_cons_succ]
          refine wpAnyH_take (i := 1) (oi := ⟨some 27, _, _, _, _, _⟩) (v := ?v70) rfl (by kernel_rfl) (by kernel_rfl) (by kernel_rfl) (fun _ _ _ h => h) (Or.inl ⟨rfl, ?c70⟩) hH ?r70
          case c70 => (intro w' _; go_simp; (try with_reducible rfl))
          try simp only [Act.put, List.setIfInBounds_toArray, List.set_cons_zero, List.set_cons_succ]
          refine wpAnyH_take (i := 2) (oi := ⟨some 28, _, _, _, _, _⟩) (v := ?v71) rfl (by kernel_rfl) (by kernel_rfl) (by kernel_rfl) (fun _ _ _ h => h) (Or.inl ⟨rfl, ?c71⟩) hH ?r71
          case c71 => (intro w' _; go_simp; (try with_reducible rfl))
          try simp only [Act.put, List.setIfInBounds_toArray, List.set_cons_zero, List.set_cons_succ]
          refine wpAnyH_take (i := 3) (oi := ⟨some 29, _, _, _, _, _⟩) (v := ?v72) rfl (by kernel_rfl) (by kernel_rfl) (by kernel_rfl) (fun _ _ _ h => h) (Or.inl ⟨rfl, ?c72⟩) hH ?r72
          case c72 => (intro w' hS; (try dsimp only at hS); go_simp; (try with_reducible rfl))
          try simp only [Act.put, List.setIfInBounds_toArray, List.set_cons_zero, List.set_cons_succ]
          refine wpAnyH_take (i := 4) (oi := ⟨some 30, _, _, _, _, _⟩) (v := ?v73) rfl (by kernel_rfl) (by kernel_rfl) (by kernel_rfl) (fun _ _ _ h => h) (Or.inl ⟨rfl, ?c73⟩) hH ?r73
          case c73 => (intro w' _; go_simp; (try with_reducible rfl))
          try simp only [Act.put, List.setIfInBounds_toArray, List.set_cons_zero, List.set_cons_succ]
          refine wpAnyH_take (i := 5) (oi := ⟨some 31, _, _, _, _, _⟩) (v := ?v74) rfl (by kernel_rfl) (by kernel_rfl) (by kernel_rfl) (fun _ _ _ h => h) (Or.inl ⟨rfl, ?c74⟩) hH ?r74
          case c74 => (intro w' _; go_simp; (try with_reducible rfl))
          try simp only [Act.put, List.setIfInBounds_toArray, List.set_cons_zero, List.set_cons_succ]
          refine wpAnyH_take (i := 6) (oi := ⟨some 32, _, _, _, _, _⟩) (v := ?v75) rfl (by kernel_rfl) (by kernel_rfl) (by kernel_rfl) (fun _ _ _ h => h) (Or.inl ⟨rfl, ?c75⟩) hH ?r75
          case c75 => (intro w' _; go_simp; (try with_reducible rfl))
          try simp only [Act.put, List.setIfInBounds_toArray, List.set_cons_zero, List.set_cons_succ]
          refine wpAnyH_take (i := 7) (oi := ⟨some 33, _, _, _, _, _⟩) (v := ?v76) rfl (by kernel_rfl) (by kernel_rfl) (by kernel_rfl) (fun _ _ _ h => h) (Or.inl ⟨rfl, ?c76⟩) hH ?r76
          case c76 => (intro w' _; go_simp; (try with_reducible rfl))
          try simp only [Act.put, List.setIfInBounds_toArray, List.set_cons_zero, List.set_cons_succ]
          refine wpAnyH_take (i := 8) (oi := ⟨some 34, _, _, _, _, _⟩) (v := ?v77) rfl (by kernel_rfl) (by kernel_rfl) (by kernel_rfl) (fun _ _ _ h => h) (Or.inl ⟨rfl, ?c77⟩) hH ?r77
          case c77 => (intro w' _; go_simp; (try with_reducible rfl))
          try simp only [Act.put, List.setIfInBounds_toArray, List.set_cons_zero, List.set_cons_succ]
          refine wpAnyH_take (i := 9) (oi := ⟨some 35, _, _, _, _, _⟩) (v := ?v78) rfl (by kernel_rfl) (by kernel_rfl) (by kernel_rfl) (fun _ _ _ h => h) (Or.inl ⟨rfl, ?c78⟩) hH ?r78
          case c78 => (intro w' hS; (try dsimp only at hS); go_simp; (try with_reducible rfl))
          try simp only [Act.put, List.setIfInBounds_toArray, List.set_cons_zero, List.set_cons_succ]
          refine wpAnyH_take (i := 10) (oi := ⟨some 36, _, _, _, _, _⟩) (v := ?v79) rfl (by kernel_rfl) (by kernel_rfl) (by kernel_rfl) (fun _ _ _ h => h) (Or.inl ⟨rfl, ?c79⟩) hH ?r79
          case c79 => (intro w' _; go_simp; (try with_reducible rfl))
          try simp only [Act.put, List.setIfInBounds_toArray, List.set_cons_zero, List.set_cons_succ]
          refine wpAnyH_take (i := 11) (oi := ⟨some 8, _, _, _, _, _⟩) (v := ?v80) rfl (by kernel_rfl) (by kernel_rfl) (by kernel_rfl) (fun _ _ _ h => h) (Or.inl ⟨rfl, ?c80⟩) hH ?r80
          case c80 => (intro w' _; go_simp; (try with_reducible rfl))
          try simp only [Act.put, List.setIfInBounds_toArray, List.set_cons_zero, List.set_cons_succ]
          refine wpAnyH_take (i := 12) (oi := ⟨some 9, _, _, _, _, _⟩) (v := ?v81) rfl (by kernel_rfl) (by kernel_rfl) (by kernel_rfl) (fun _ _ _ h => h) (Or.inl ⟨rfl, ?c81⟩) hH ?r81
          case c81 => (intro w' _; go_simp; (try with_reducible rfl))
          try simp only [Act.put, List.setIfInBounds_toArray, List.set_cons_zero, List.set_cons_succ]
          refine wpAnyH_done (by kernel_rfl) ?_ _
          have HB5 := hH.2
          clear hH HB x1
          go_wp2_with (go_at_call 8; refine (HX.out _).mono ?_; rintro e w6 ⟨rfl, hb⟩)
          have HB6 := Lib.hid (HB5.out.trans (hb.mono HB5.out.size))
          clear hb
          go_wp2_with fail
          go_roundw
          case rel => exact ⟨j + 1, s, a, k, rfl, rfl, rfl, by go_num, by omega, by omega, HG, HB6⟩
          case measure => simp [RowKit.intOf]; omega
        · have HS := Lib.hid (HI.out rfl)
          obtain ⟨g3, h3⟩ : ∃ g3, decide (nn ≥ 3) = g3 := ⟨_, rfl⟩
          obtain ⟨g6, h6⟩ : ∃ g6, decide (nn ≤ 6) = g6 := ⟨_, rfl⟩
          obtain ⟨g2, hg2⟩ : ∃ g2, (nn == 2) = g2 := ⟨_, rfl⟩
          have hfin := good_fin HS.out h3 h6 hg2
          clear HI
          go_wp2_with fail
          refine wp_region_held_drew (S := fun w' => w'.cell? ⟨b1, o1 + j, none⟩ = some (.int .u8 (f : Int)) ∧ Hid (Below W.heap.size W w')) (by kernel_rfl) (⟨x1, Lib.hid HB.out.drew⟩) (fun hH => ?_)
          refine wpAnyH_take (i := 0) (oi := ⟨some 26, _, _, _, _, _⟩) (v := ?v82) rfl (by kernel_rfl) (by kernel_rfl) (by kernel_rfl) (fun _ _ _ h => h) (Or.inl ⟨rfl, ?c82⟩) hH ?r82
          case c82 => (intro w' _; go_simp; (try with_reducible rfl))
          try simp only [Act.put, List.setIfInBounds_toArray, List.set_cons_zero, List.set_cons_succ]
          refine wpAnyH_take (i := 1) (oi := ⟨some 27, _, _, _, _, _⟩) (v := ?v83) rfl (by kernel_rfl) (by kernel_rfl) (by kernel_rfl) (fun _ _ _ h => h) (Or.inl ⟨rfl, ?c83⟩) hH ?r83
          case c83 => (intro w' _; go_simp; (try with_reducible rfl))
          try simp only [Act.put, List.setIfInBounds_toArray, List.set_cons_zero, List.set_cons_succ]
          refine wpAnyH_take (i := 2) (oi := ⟨some 28, _, _, _, _, _⟩) (v := ?v84) rfl (by kernel_rfl) (by kernel_rfl) (by kernel_rfl) (fun _ _ _ h => h) (Or.inl ⟨rfl, ?c84⟩) hH ?r84
          case c84 => (intro w' _; go_simp; (try with_reducible rfl))
          try simp only [Act.put, List.setIfInBounds_toArray, List.set_cons_zero, List.set_cons_succ]
          refine wpAnyH_take (i := 3) (oi := ⟨some 29, _, _, _, _, _⟩) (v := ?v85) rfl (by kernel_rfl) (by kernel_rfl) (by kernel_rfl) (fun _ _ _ h => h) (Or.inl ⟨rfl, ?c85⟩) hH ?r85
          case c85 => (intro w' hS; (try dsimp only at hS); go_simp; (try with_reducible rfl))
          try simp only [Act.put, List.setIfInBounds_toArray, List.set_cons_zero, List.set_cons_succ]
          refine wpAnyH_take (i := 4) (oi := ⟨some 30, _, _, _, _, _⟩) (v := ?v86) rfl (by kernel_rfl) (by kernel_rfl) (by kernel_rfl) (fun _ _ _ h => h) (Or.inl ⟨rfl, ?c86⟩) hH ?r86
          case c86 => (intro w' _; go_simp; (try with_reducible rfl))
          try simp only [Act.put, List.setIfInBounds_toArray, List.set_cons_zero, List.set_cons_succ]
          refine wpAnyH_take (i := 5) (oi := ⟨some 31, _, _, _, _, _⟩) (v := ?v87) rfl (by kernel_rfl) (by kernel_rfl) (by kernel_rfl) (fun _ _ _ h => h) (Or.inl ⟨rfl, ?c87⟩) hH ?r87
          case c87 => (intro w' _; go_simp; (try with_reducible rfl))
          try simp only [Act.put, List.setIfInBounds_toArray, List.set_cons_zero, List.set_cons_succ]
          refine wpAnyH_take (i := 6) (oi := ⟨some 32, _, _, _, _, _⟩) (v := ?v88) rfl (by kernel_rfl) (by kernel_rfl) (by kernel_rfl) (fun _ _ _ h => h) (Or.inl ⟨rfl, ?c88⟩) hH ?r88
          case c88 => (intro w' _; go_simp; (try with_reducible rfl))
          try simp only [Act.put, List.setIfInBounds_toArray, List.set_cons_zero, List.set_cons_succ]
          refine wpAnyH_take (i := 7) (oi := ⟨some 33, _, _, _, _, _⟩) (v := ?v89) rfl (by kernel_rfl) (by kernel_rfl) (by kernel_rfl) (fun _ _ _ h => h) (Or.inl ⟨rfl, ?c89⟩) hH ?r89
          case c89 => (intro w' _; go_simp; (try with_reducible rfl))
          try simp only [Act.put, List.setIfInBounds_toArray, List.set_cons_zero, List.set_cons_succ]
          refine wpAnyH_take (i := 8) (oi := ⟨some 34, _, _, _, _, _⟩) (v := ?v90) rfl (by kernel_rfl) (by kernel_rfl) (by kernel_rfl) (fun _ _ _ h => h) (Or.inl ⟨rfl, ?c90⟩) hH ?r90
          case c90 => (intro w' _; go_simp; (try with_reducible rfl))
          try simp only [Act.put, List.setIfInBounds_toArray, List.set_cons_zero, List.set_cons_succ]
          refine wpAnyH_take (i := 9) (oi := ⟨some 35, _, _, _, _, _⟩) (v := ?v91) rfl (by kernel_rfl) (by kernel_rfl) (by kernel_rfl) (fun _ _ _ h => h) (Or.inl ⟨rfl, ?c91⟩) hH ?r91
          case c91 => (intro w' hS; (try dsimp only at hS); go_simp; (try with_reducible rfl))
          try simp only [Act.put, List.setIfInBounds_toArray, List.set_cons_zero, List.set_cons_succ]
          refine wpAnyH_take (i := 10) (oi := ⟨some 36, _, _, _, _, _⟩) (v := ?v92) rfl (by kernel_rfl) (by kernel_rfl) (by kernel_rfl) (fun _ _ _ h => h) (Or.inl ⟨rfl, ?c92⟩) hH ?r92
          case c92 => (intro w' _; go_simp; (try with_reducible rfl))
          try simp only [Act.put, List.setIfInBounds_toArray, List.set_cons_zero, List.set_cons_succ]
          refine wpAnyH_take (i := 11) (oi := ⟨some 8, _, _, _, _, _⟩) (v := ?v93) rfl (by kernel_rfl) (by kernel_rfl) (by kernel_rfl) (fun _ _ _ h => h) (Or.inl ⟨rfl, ?c93⟩) hH ?r93
          case c93 => (intro w' _; go_simp; (try with_reducible rfl))
          try simp only [Act.put, List.setIfInBounds_toArray, List.set_cons_zero, List.set_cons_succ]
          refine wpAnyH_take (i := 12) (oi := ⟨some 9, _, _, _, _, _⟩) (v := ?v94) rfl (by kernel_rfl) (by kernel_rfl) (by kernel_rfl) (fun _ _ _ h => h) (Or.inl ⟨rfl, ?c94⟩) hH ?r94
          case c94 => (intro w' _; go_simp; (try with_reducible rfl))
          try simp only [Act.put, List.setIfInBounds_toArray, List.set_cons_zero, List.set_cons_succ]
          refine wpAnyH_done (by kernel_rfl) ?_ _
          have HB5 := hH.2
          clear hH HB x1
          go_wp2_with fail
          go_at_call 8
          refine (HX.out _).mono ?_
          rintro e w6 ⟨rfl, hb⟩
          have HB6 := Lib.hid (HB5.out.trans (hb.mono HB5.out.size))
          clear hb HB5
          cases a
          · cases r
            · cases k
              · cases g3 <;> cases g6 <;> cases g2
                all_goals first | (exfalso; revert hfin; simp; done) | skip
                all_goals
                  clear hfin
                  go_wp2_with fail
                  go_roundw
                  case rel => exact ⟨j + 1, nn, _, _, rfl, rfl, rfl, by go_num, by omega, by omega, HS, HB6⟩
                  case measure => simp [RowKit.intOf]; omega
              · cases g3 <;> cases g6 <;> cases g2
                all_goals first | (exfalso; revert hfin; simp; done) | skip
                all_goals
                  clear hfin
                  go_wp2_with fail
                  go_roundw
                  case rel => exact ⟨j + 1, nn, _, _, rfl, rfl, rfl, by go_num, by omega, by omega, HS, HB6⟩
                  case measure => simp [RowKit.intOf]; omega
            · cases q
              · cases k
                · cases g3 <;> cases g6 <;> cases g2
                  all_goals first | (exfalso; revert hfin; simp; done) | skip
                  all_goals
                    clear hfin
                    go_wp2_with fail
                    go_roundw
                    case rel => exact ⟨j + 1, nn, _, _, rfl, rfl, rfl, by go_num, by omega, by omega, HS, HB6⟩
                    case measure => simp [RowKit.intOf]; omega
                · cases g3 <;> cases g6 <;> cases g2
                  all_goals first | (exfalso; revert hfin; simp; done) | skip
                  all_goals
                    clear hfin
                    go_wp2_with fail
                    go_roundw
                    case rel => exact ⟨j + 1, nn, _, _, rfl, rfl, rfl, by go_num, by omega, by omega, HS, HB6⟩
                    case measure => simp [RowKit.intOf]; omega
              · cases k
                · cases g3 <;> cases g6 <;> cases g2
                  all_goals first | (exfalso; revert hfin; simp; done) | skip
                  all_goals
                    clear hfin
                    go_wp2_with fail
                    go_roundw
                    case rel => exact ⟨j + 1, nn, _, _, rfl, rfl, rfl, by go_num, by omega, by omega, HS, HB6⟩
                    case measure => simp [RowKit.intOf]; omega
                · cases g3 <;> cases g6 <;> cases g2
                  all_goals first | (exfalso; revert hfin; simp; done) | skip
                  all_goals
                    clear hfin
                    go_wp2_with fail
                    go_roundw
                    case rel => exact ⟨j + 1, nn, _, _, rfl, rfl, rfl, by go_num, by omega, by omega, HS, HB6⟩
                    case measure => simp [RowKit.intOf]; omega
          · cases k
            · cases r
              · cases p
                · cases g3 <;> cases g6 <;> cases g2
                  all_goals first | (exfalso; revert hfin; simp; done) | skip
                  all_goals
                    clear hfin
                    go_wp2_with fail
                    go_roundw
                    case rel => exact ⟨j + 1, nn, _, _, rfl, rfl, rfl, by go_num, by omega, by omega, HS, HB6⟩
                    case measure => simp [RowKit.intOf]; omega
                · cases g3 <;> cases g6 <;> cases g2
                  all_goals first | (exfalso; revert hfin; simp; done) | skip
                  all_goals
                    clear hfin
                    go_wp2_with fail
                    go_roundw
                    case rel => exact ⟨j + 1, nn, _, _, rfl, rfl, rfl, by go_num, by omega, by omega, HS, HB6⟩
                    case measure => simp [RowKit.intOf]; omega
              · cases g3 <;> cases g6 <;> cases g2
                all_goals first | (exfalso; revert hfin; simp; done) | skip
                all_goals
                  clear hfin
                  go_wp2_with fail
                  go_roundw
                  case rel => exact ⟨j + 1, nn, _, _, rfl, rfl, rfl, by go_num, by omega, by omega, HS, HB6⟩
                  case measure => simp [RowKit.intOf]; omega
            · cases g3 <;> cases g6 <;> cases g2
              all_goals first | (exfalso; revert hfin; simp; done) | skip
              all_goals
                clear hfin
                go_wp2_with fail
                go_roundw
                case rel => exact ⟨j + 1, nn, _, _, rfl, rfl, rfl, by go_num, by omega, by omega, HS, HB6⟩
                case measure => simp [RowKit.intOf]; omega
      · go_wp2_with fail
        go_at_call 10
        refine (awake_any _).mono ?_
        rintro e w5 ⟨rfl, hb⟩
        have HB5 := Lib.hid (HB.out.trans (hb.mono HB.out.size))
        clear hb
        go_wp2_with fail
        go_ret
        exact ⟨rfl, HB5.out⟩
    · go_wp2_with fail
      go_at_call 10
      refine (awake_any _).mono ?_
      rintro e w5 ⟨rfl, hb⟩
      have HB5 := Lib.hid (HB.out.trans (hb.mono HB.out.size))
      clear hb
      go_wp2_with fail
      go_ret
      exact ⟨rfl, HB5.out⟩
end Tr
end Go.Proofs.Ytmknmkifpapnhaa
