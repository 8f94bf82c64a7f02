/- Layer 15: the contracts of flow.Unpack, Pack, Next, Over, Dead. -/
import Derived.Test.YtdjbiaifblmckaaDoorFloA
set_option linter.unusedVariables false
set_option linter.unusedSimpArgs false
namespace Go.Proofs.YtdjbiaifblmckaaDoor
open Go.ChangeShapes Go.WideShapes Go.ChangeAt Go.RowKit Go.Mtl
namespace Fl
open FloM (gI Fit)
/-- A flow's three cells. -/
abbrev gtc (v k c : Int) : Array Value := #[.int .i64 v, .int .i64 k, .int .i64 c]
section
variable {w w' : World} {g : Nat} {v k c : Int} {t : TypeId}
theorem gt_cells (H : Blk w g (gtc v k c) t) : w.cell? ⟨g, 0, none⟩ = some (.int .i64 v) ∧ w.cell? ⟨g, 1, none⟩ = some (.int .i64 k) ∧ w.cell? ⟨g, 2, none⟩ = some (.int .i64 c) := by
  refine ⟨?_, ?_, ?_⟩ <;> exact H.cell _ _ rfl
theorem gt_frozen (H : Blk w g (gtc v k c) t) : w.frozen? ⟨g, 0, none⟩ = false ∧ w.frozen? ⟨g, 1, none⟩ = false ∧ w.frozen? ⟨g, 2, none⟩ = false := by
  refine ⟨?_, ?_, ?_⟩ <;> exact H.frozen _
abbrev storeG (w : World) (g : Nat) (v k c : Int) : World := ((w.setCell ⟨g, 0, none⟩ (.int .i64 v)).setCell ⟨g, 1, none⟩ (.int .i64 k)).setCell ⟨g, 2, none⟩ (.int .i64 c)
theorem gt_store (H : Blk w g (gtc v k c) t) (v' k' c' : Int) : Blk (storeG w g v' k' c') g (gtc v' k' c') t := by
  have h0 := H.set' 0 (.int .i64 v') (cs' := gtc v' k c) rfl
  have h1 := h0.set' 1 (.int .i64 k') (cs' := gtc v' k' c) rfl
  exact h1.set' 2 (.int .i64 c') rfl
theorem storeG_other {cs : Array Value} {n : Nat} (H : Blk w g cs t) (hk : g ≠ n) (a b d : Int) : Blk (storeG w n a b d) g cs t := ((H.other n 0 hk _).other n 1 hk _).other n 2 hk _
theorem below_storeG {B : Nat} {w0 : World} (hb : Below B w0 w) (hg : B ≤ g) (a b d : Int) : Below B w0 (storeG w g a b d) :=
  ((hb.setCell (p := ⟨g, 0, none⟩) hg _).setCell (p := ⟨g, 1, none⟩) hg _).setCell (p := ⟨g, 2, none⟩) hg _
end

set_option maxHeartbeats 1000000 in
theorem unpack_any {c k v : Int} (h : Fit c k v) (W : World) (he : Env W) :
    Calls Tryd.prog 10 #[.int .u64 (gI c k v)] W fun e w' => e = .returned (.agg (gtc v k c)) ∧ Below W.heap.size W w' := by
  have H := Lib.hid h
  have HE := Lib.hid (he.alloc (.cells (gtc 0 0 0) 23))
  have HX := Lib.hid (Blk.box W (gtc 0 0 0) 23)
  have HB := Lib.hid ((Below.refl _ W).alloc (Nat.le_refl _) (.cells (gtc 0 0 0) 23))
  clear he h
  go_enter Tryd.func10, Tryd.ntmps10
  go_wp2_with fail
  go_at_call 18
  refine (get_v H.out _ HE.out).mono ?_
  rintro e w' ⟨rfl, n1, rfl⟩
  go_wp2_with fail
  go_at_call 18
  refine (get_k H.out _ (HE.out.drewN n1)).mono ?_
  rintro e w' ⟨rfl, n2, rfl⟩
  go_wp2_with fail
  go_at_call 18
  refine (get_c H.out _ (HE.out.drewN (n1 + n2))).mono ?_
  rintro e w' ⟨rfl, n3, rfl⟩
  have f0 := (HX.out.drewN (n1 + n2 + n3)).frozen 0
  have f1 := (HX.out.drewN (n1 + n2 + n3)).frozen 1
  have f2 := (HX.out.drewN (n1 + n2 + n3)).frozen 2
  obtain ⟨y0, y1, y2⟩ := gt_cells (HX.out.drewN (n1 + n2 + n3))
  go_wp2_with fail
  have HR := gt_store (HX.out.drewN (n1 + n2 + n3)) v k c
  obtain ⟨r0, r1, r2⟩ := gt_cells HR
  exact bodyPost_ret (v := .agg (gtc v k c)) (by simp [results, Tryd.results10, go_sem, r0, r1, r2]) rfl ⟨rfl, below_storeG (HB.out.drews _) (by simp) _ _ _⟩

theorem put_vf {c k v n : Int} (h : Fit c k v) (h0 : 0 ≤ n) (h1 : n < 16) (W : World) (he : Env W) :
    Calls Tryd.prog 16 #[.int .u64 (gI c k v), .int .i64 2, .int .i64 n] W fun e w' => e = .returned (.int .u64 (gI c k n)) ∧ ∃ n, w' = W.drewN n := by
  have := put_v (n := n) h W he
  rwa [show n % 16 = n by omega] at this
theorem idx3 (a b d : Value) (k : Int) (x : Value) (hk : k = 0 ∧ x = a ∨ k = 1 ∧ x = b ∨ k = 2 ∧ x = d) (w : World) : (Instr.index 43 (.agg #[a, b, d]) (.int .i64 k)).run Tryd.prog w = .ok x w := by
  have hu := Tryd.underlying43
  obtain ⟨i, hi, hs⟩ := Option.map_eq_some_iff.1 (show (Tryd.prog.info? 3).map (·.size) = some 1 by kernel_rfl)
  rcases hk with ⟨rfl, rfl⟩ | ⟨rfl, rfl⟩ | ⟨rfl, rfl⟩ <;> simp [Instr.index, run_underlying hu, asIntOf, go_sem, sizeOf, typeInfo, hs, part, hi]

/-- Ahead of round j of Pack: the word so far, and what fits. -/
def St (c k v : Int) (j : Nat) (x : Int) : Prop := j = 0 ∧ x = gI 0 0 0 ∨ j = 1 ∧ (0 ≤ c ∧ c < 1099511627776) ∧ x = gI c 0 0 ∨ j = 2 ∧ (0 ≤ c ∧ c < 1099511627776) ∧ (0 ≤ k ∧ k < 1048576) ∧ x = gI c k 0 ∨ j = 3 ∧ (0 ≤ c ∧ c < 1099511627776) ∧ (0 ≤ k ∧ k < 1048576) ∧ (0 ≤ v ∧ v < 16) ∧ x = gI c k v
theorem gI_zero : (0 : Int) = gI 0 0 0 := by unfold gI; rfl
/-- What Pack returns. -/
def PV (c k v : Int) (V : Value) : Prop := (Fit c k v → V = .tuple #[.int .u64 (gI c k v), .int .i64 0]) ∧ (¬ Fit c k v → V = .tuple #[.int .u64 0, .int .i64 1])
theorem PV_is (c k v : Int) : ∃ V, PV c k v V := by
  by_cases h : Fit c k v
  · exact ⟨_, fun _ => rfl, fun h' => absurd h h'⟩
  · exact ⟨_, fun h' => absurd h' h, fun _ => rfl⟩
set_option maxHeartbeats 4000000 in
theorem pack_any (c k v : Int) (V : Value) (hV : PV c k v V) (W : World) (he : Env W) :
    Calls Tryd.prog 7 #[.agg (gtc v k c)] W fun e w' => e = .returned V ∧ Below W.heap.size W w' := by
  have HV := Lib.hid hV
  have HE := Lib.hid (he.alloc (.cells (gtc v k c) 23))
  have HX := Lib.hid (Blk.box W (gtc v k c) 23)
  have HB := Lib.hid ((Below.refl _ W).alloc (Nat.le_refl _) (.cells (gtc v k c) 23))
  obtain ⟨x0, x1, x2⟩ := gt_cells HX.out
  clear he hV
  go_enter Tryd.func7, Tryd.ntmps7
  go_wp2_with fail
  go_loopw [4, 14] (fun x i w' => ∃ j : Nat, j ≤ 3 ∧ i = .int .i64 (j : Int) ∧ (∃ y, St c k v j y ∧ x = .int .u64 y) ∧ ∃ n, w' = (W.alloc (.cells (gtc v k c) 23)).drewN n) (fun _ i _ => 3 - (intOf i).toNat)
  case atStart => exact ⟨0, by omega, rfl, ⟨0, .inl ⟨rfl, gI_zero⟩, rfl⟩, 0, rfl⟩
  case round =>
    obtain ⟨j, hj, rfl, ⟨y, hy, rfl⟩, n, rfl⟩ := hrel
    rcases hy with ⟨rfl, rfl⟩ | ⟨rfl, fc, rfl⟩ | ⟨rfl, fc, fk, rfl⟩ | ⟨rfl, fc, fk, fv, rfl⟩
    · have _h := HX
      have X := idx3 (.int .i64 c) (.int .i64 k) (.int .i64 v) 0 (.int .i64 c) (by simp)
      have z := HE.out.c2
      by_cases fc : 0 ≤ c
      · have d0 : decide (c < 0) = false := by simpa using fc
        by_cases fd : c < 1099511627776
        · have d1 : decide (c > 1099511627775) = false := by simp; omega
          have FN := Lib.hid (And.intro fc fd)
          clear fc fd
          go_wp2_with fail
          go_at_call 16
          refine (put_c (c := 0) (k := 0) (v := 0) ⟨by omega, by omega, by omega, by omega, by omega, by omega⟩ FN.out.1 FN.out.2 _ (HE.out.drewN n)).mono ?_
          rintro e w' ⟨rfl, m, rfl⟩
          go_wp2_with fail
          go_roundw
          case rel => exact ⟨1, by omega, by go_num, ⟨_, .inr (.inl ⟨rfl, FN.out, rfl⟩), rfl⟩, n + m, rfl⟩
          case measure => simp [intOf]
        · have d1 : decide (c > 1099511627775) = true := by simp; omega
          have FN : Hid (V = .tuple #[.int .u64 0, .int .i64 1]) := HV.out.2 (fun h => fd h.c1)
          clear fc fd
          go_wp2_with fail
          go_ret2
          exact ⟨by rw [FN.out]; rfl, HB.out.drews n⟩
      · have d0 : decide (c < 0) = true := by simp; omega
        have FN : Hid (V = .tuple #[.int .u64 0, .int .i64 1]) := HV.out.2 (fun h => fc h.c0)
        clear fc
        go_wp2_with fail
        go_ret2
        exact ⟨by rw [FN.out]; rfl, HB.out.drews n⟩
    · have Fc := Lib.hid fc
      clear fc
      have X := idx3 (.int .i64 c) (.int .i64 k) (.int .i64 v) 1 (.int .i64 k) (by simp)
      have z := HE.out.c5
      by_cases fc : 0 ≤ k
      · have d0 : decide (k < 0) = false := by simpa using fc
        by_cases fd : k < 1048576
        · have d1 : decide (k > 1048575) = false := by simp; omega
          have FN := Lib.hid (And.intro fc fd)
          clear fc fd
          go_wp2_with fail
          go_at_call 16
          refine (put_k (c := c) (k := 0) (v := 0) ⟨Fc.out.1, Fc.out.2, by omega, by omega, by omega, by omega⟩ FN.out.1 FN.out.2 _ (HE.out.drewN n)).mono ?_
          rintro e w' ⟨rfl, m, rfl⟩
          go_wp2_with fail
          go_roundw
          case rel => exact ⟨2, by omega, by go_num, ⟨_, .inr (.inr (.inl ⟨rfl, Fc.out, FN.out, rfl⟩)), rfl⟩, n + m, rfl⟩
          case measure => simp [intOf]
        · have d1 : decide (k > 1048575) = true := by simp; omega
          have FN : Hid (V = .tuple #[.int .u64 0, .int .i64 1]) := HV.out.2 (fun h => fd h.k1)
          clear fc fd
          go_wp2_with fail
          go_ret2
          exact ⟨by rw [FN.out]; rfl, HB.out.drews n⟩
      · have d0 : decide (k < 0) = true := by simp; omega
        have FN : Hid (V = .tuple #[.int .u64 0, .int .i64 1]) := HV.out.2 (fun h => fc h.k0)
        clear fc
        go_wp2_with fail
        go_ret2
        exact ⟨by rw [FN.out]; rfl, HB.out.drews n⟩
    · have Fc := Lib.hid fc
      have Fk := Lib.hid fk
      clear fc fk
      have X := idx3 (.int .i64 c) (.int .i64 k) (.int .i64 v) 2 (.int .i64 v) (by simp)
      have z := HE.out.c8
      by_cases fc : 0 ≤ v
      · have d0 : decide (v < 0) = false := by simpa using fc
        by_cases fd : v < 16
        · have d1 : decide (v > 15) = false := by simp; omega
          have FN := Lib.hid (And.intro fc fd)
          clear fc fd
          go_wp2_with fail
          go_at_call 16
          refine (put_vf (c := c) (k := k) (v := 0) ⟨Fc.out.1, Fc.out.2, Fk.out.1, Fk.out.2, by omega, by omega⟩ FN.out.1 FN.out.2 _ (HE.out.drewN n)).mono ?_
          rintro e w' ⟨rfl, m, rfl⟩
          go_wp2_with fail
          go_roundw
          case rel => exact ⟨3, by omega, by go_num, ⟨_, .inr (.inr (.inr ⟨rfl, Fc.out, Fk.out, FN.out, rfl⟩)), rfl⟩, n + m, rfl⟩
          case measure => simp [intOf]
        · have d1 : decide (v > 15) = true := by simp; omega
          have FN : Hid (V = .tuple #[.int .u64 0, .int .i64 1]) := HV.out.2 (fun h => fd h.v1)
          clear fc fd
          go_wp2_with fail
          go_ret2
          exact ⟨by rw [FN.out]; rfl, HB.out.drews n⟩
      · have d0 : decide (v < 0) = true := by simp; omega
        have FN : Hid (V = .tuple #[.int .u64 0, .int .i64 1]) := HV.out.2 (fun h => fc h.v0)
        clear fc
        go_wp2_with fail
        go_ret2
        exact ⟨by rw [FN.out]; rfl, HB.out.drews n⟩
    · have FN : Hid (V = .tuple #[.int .u64 (gI c k v), .int .i64 0]) := HV.out.1 ⟨fc.1, fc.2, fk.1, fk.2, fv.1, fv.2⟩
      clear fc fk fv
      go_wp2_with fail
      go_ret2
      exact ⟨by rw [FN.out]; rfl, HB.out.drews n⟩
end Fl
end Go.Proofs.YtdjbiaifblmckaaDoor
