/- Several texts of this proof in one file, each in its own namespace. -/
import Derived.Test.YtcockldefmmhbaaGreatDoorJ38
import Derived.Deep.DeepCutAuto
import Derived.Deep.RegionHeld3
/- Layer 10: the contract of Less. -/
set_option linter.unusedVariables false
set_option linter.unusedSimpArgs false
set_option maxRecDepth 100000
namespace Go.Proofs.YtcockldefmmhbaaGreatDoor
open Go.ChangeShapes Go.WideShapes Go.ChangeAt Go.RowKit Go.Mtl
namespace Ky
open KeyM (lowB lessB)

/-- Both keys in their blocks. -/
def LQ (W : World) (ka kb : Array Value) (w : World) : Prop := Blk w W.heap.size ka 87 ∧ Blk w (W.heap.size + 1) kb 87 ∧ Below W.heap.size W w
theorem LQ.next {W w w' : World} {ka kb : Array Value} (H : LQ W ka kb w) (hb : Below w.heap.size w w') : LQ W ka kb w' := ⟨H.1.next hb, H.2.1.next hb, H.2.2.trans (hb.mono H.2.2.size)⟩
theorem LQ.alloc {W w : World} {ka kb : Array Value} (H : LQ W ka kb w) (o : Obj) : LQ W ka kb (w.alloc o) := H.next ((Below.refl _ _).alloc (Nat.le_refl _) o)

theorem LQ.hide {W w : World} {ka kb : Array Value} (H : LQ W ka kb w) : ∃ v, v = w := ⟨w, rfl⟩
theorem LQ.gt {W w : World} {ka kb : Array Value} (H : LQ W ka kb w) : W.heap.size + 1 < w.heap.size := H.2.1.lt
theorem LQ.box {W w : World} {ka kb cs : Array Value} {t : TypeId} (H : LQ W ka kb (w.alloc (.cells cs t))) : Blk (w.alloc (.cells cs t)) w.heap.size cs t := Blk.box w cs t
theorem LQ.drew {W w : World} {ka kb : Array Value} (H : LQ W ka kb w) : LQ W ka kb w.drew := ⟨H.1.drew, H.2.1.drew, H.2.2.drew⟩
theorem LQ.store {W w : World} {ka kb : Array Value} {g : Nat} (H : LQ W ka kb w) (hg : W.heap.size + 1 < g) (v u : Value) : LQ W ka kb ((w.setCell ⟨g, 0, none⟩ v).setCell ⟨g, 1, none⟩ u) :=
  ⟨(H.1.other g 0 (by omega) v).other g 1 (by omega) u, (H.2.1.other g 0 (by omega) v).other g 1 (by omega) u, (H.2.2.setCell (p := ⟨g, 0, none⟩) (by simp; omega) v).setCell (p := ⟨g, 1, none⟩) (by simp; omega) u⟩
section
variable {w : World} {g k : Nat} {t : TypeId} {cs : Array Value} {x y : Int}
theorem ep_store (H : Blk w g (epc x y) t) (x' y' : Int) : Blk ((w.setCell ⟨g, 0, none⟩ (.int .u32 x')).setCell ⟨g, 1, none⟩ (.int .u32 y')) g (epc x' y') t :=
  (H.set' 0 (.int .u32 x') (cs' := epc x' y) rfl).set' 1 (.int .u32 y') rfl
theorem ep_other (H : Blk w g cs t) (hk : g ≠ k) (v u : Value) : Blk ((w.setCell ⟨k, 0, none⟩ v).setCell ⟨k, 1, none⟩ u) g cs t := (H.other k 0 hk v).other k 1 hk u
end

set_option maxHeartbeats 4000000 in
theorem less_any (a b p q r a2 b2 p2 q2 r2 : Nat) (hp : p < 65536) (hq : q < 65536) (hp2 : p2 < 65536) (hq2 : q2 < 65536) (g : Bool) (hg : lessB a b p q r a2 b2 p2 q2 r2 = g) (W : World) :
    Calls Tryz.prog 123 #[.agg (kyc a b p q r), .agg (kyc a2 b2 p2 q2 r2)] W fun e w' => e = .returned (.bool g) ∧ Below W.heap.size W w' := by
  have HX0 := Lib.hid ((Blk.box W (kyc a b p q r) 87).alloc (.cells (kyc a2 b2 p2 q2 r2) 87))
  have HY0 := Lib.hid (Blk.box1 W (.cells (kyc a b p q r) 87) (kyc a2 b2 p2 q2 r2) 87)
  have HB0 := Lib.hid (((Below.refl _ W).alloc (Nat.le_refl _) (.cells (kyc a b p q r) 87)).alloc (by simp) (.cells (kyc a2 b2 p2 q2 r2) 87))
  obtain ⟨x0, x1, x2, x3, x4⟩ := ky_cells HX0.out
  obtain ⟨y0, y1, y2, y3, y4⟩ := ky_cells HY0.out
  unfold lessB at hg
  by_cases h1 : r = r2
  · rw [if_neg (by omega)] at hg
    subst h1
    have E1 := Lib.hid (end_any a b p q r hp hq 0 a p (Or.inl ⟨rfl, rfl, rfl⟩))
    have E2 := Lib.hid (end_any a2 b2 p2 q2 r hp2 hq2 0 a2 p2 (Or.inl ⟨rfl, rfl, rfl⟩))
    have HG := Lib.hid hg
    clear hg
    have d0 : ((r : Int) != r) = false := by simp
    go_enter Tryz.func123, Tryz.ntmps123
    go_upto_region 3 with fail
    have HQ : Hid (LQ W (kyc a b p q r) (kyc a2 b2 p2 q2 r) (((W.alloc (.cells (kyc a b p q r) 87)).alloc (.cells (kyc a2 b2 p2 q2 r) 87)).drew)) := Lib.hid ⟨HX0.out.drew, HY0.out.drew, HB0.out.drew⟩
    clear x0 x1 x2 x3 x4 y0 y1 y2 y3 y4
    go_cut [5, 6] (fun s5 s6 wx => ∃ g5 g6 : Nat, s5 = .pointer (some ⟨g5, 0, none⟩) ∧ s6 = .pointer (some ⟨g6, 0, none⟩) ∧ Hid (Blk wx g5 (epc a p) 166) ∧ Hid (Blk wx g6 (epc a2 p2) 166) ∧ Hid (LQ W (kyc a b p q r) (kyc a2 b2 p2 q2 r) wx))
    case first =>
      refine wp_region_held_drew (S := fun w' => LQ W (kyc a b p q r) (kyc a2 b2 p2 q2 r) w') (by kernel_rfl) (HQ.out) (fun hH => ?_)
      obtain ⟨wy, hwy⟩ := LQ.hide hH
      rw [← hwy] at hH ⊢
      clear hwy
      refine wpAnyH_take (i := 0) (oi := ⟨some 17, _, _, _, _, _⟩) (v := ?v1) rfl (by kernel_rfl) (by kernel_rfl) (by kernel_rfl) (fun _ _ _ h => h) (Or.inl ⟨rfl, ?c1⟩) hH ?r1
      case c1 => (intro w' hS; obtain ⟨x0, x1, x2, x3, x4⟩ := ky_cells hS.1; go_simp; (try with_reducible rfl))
      try simp only [Act.put, List.setIfInBounds_toArray, List.set_cons_zero, List.set_cons_succ]
      refine wpAnyH_take (i := 2) (oi := ⟨some 19, _, _, _, _, _⟩) (v := ?v2) rfl (by kernel_rfl) (by kernel_rfl) (by kernel_rfl) (fun _ _ _ h => h) (Or.inl ⟨rfl, ?c2⟩) hH ?r2
      case c2 => (intro w' hS; obtain ⟨x0, x1, x2, x3, x4⟩ := ky_cells hS.2.1; go_simp; (try with_reducible rfl))
      try simp only [Act.put, List.setIfInBounds_toArray, List.set_cons_zero, List.set_cons_succ]
      refine wpAnyH_ready (rs := [1, 4, 5]) (by kernel_rfl) (by simp) (AllReadyH.cons rfl (fun K hK => ?_) (AllReadyH.cons rfl (fun K hK => ?_) (AllReadyH.cons rfl (fun K hK => ?_) (AllReadyH.nil))))
      · go_simp
        refine (E1.out _).mono ?_
        rintro e w2 ⟨rfl, hbp⟩
        refine hK.out _ _ (LQ.next hH hbp) (fun hH => ?_)
        clear hK K
        clear hbp
        try simp only [Act.put, List.setIfInBounds_toArray, List.set_cons_zero, List.set_cons_succ]
        refine wpAnyH_ready (rs := [3, 4, 5]) (by kernel_rfl) (by simp) (AllReadyH.cons rfl (fun K hK => ?_) (AllReadyH.cons rfl (fun K hK => ?_) (AllReadyH.cons rfl (fun K hK => ?_) (AllReadyH.nil))))
        · go_simp
          refine (E2.out _).mono ?_
          rintro e w3 ⟨rfl, hbp⟩
          refine hK.out _ _ (LQ.next hH hbp) (fun hH => ?_)
          clear hK K
          clear hbp
          try simp only [Act.put, List.setIfInBounds_toArray, List.set_cons_zero, List.set_cons_succ]
          refine wpAnyH_ready (rs := [4, 5]) (by kernel_rfl) (by simp) (AllReadyH.cons rfl (fun K hK => ?_) (AllReadyH.cons rfl (fun K hK => ?_) (AllReadyH.nil)))
          · go_simp
            have G5 := LQ.gt hH
            refine hK.out _ _ (LQ.alloc hH _) (fun hH => ?_)
            clear hK K
            have P5 := Lib.hid (LQ.box hH)
            try simp only [Act.put, List.setIfInBounds_toArray, List.set_cons_zero, List.set_cons_succ]
            refine wpAnyH_ready (rs := [5]) (by kernel_rfl) (by simp) (AllReadyH.cons rfl (fun K hK => ?_) (AllReadyH.nil))
            go_simp
            have G6 := LQ.gt hH
            have hlt := P5.out.lt
            refine hK.out _ _ (LQ.alloc hH _) (fun hH => ?_)
            clear hK K
            have P6 := Lib.hid (LQ.box hH)
            replace P5 := Lib.hid (P5.out.alloc (.cells (epc 0 0) 166))
            have hne := Nat.ne_of_lt hlt; clear hlt
            try simp only [Act.put, List.setIfInBounds_toArray, List.set_cons_zero, List.set_cons_succ]
            refine wpAnyH_ready (rs := [6]) (by kernel_rfl) (by simp) (AllReadyH.cons rfl (fun K hK => ?_) (AllReadyH.nil))
            obtain ⟨wz, hwz⟩ := LQ.hide hH
            try simp only [World.size_alloc] at P5 P6 G5 G6 hne
            rw [← hwz] at hH P5 P6 ⊢
            clear hwz
            have c0 := P5.out.cell 0 _ rfl
            have c1 := P5.out.cell 1 _ rfl
            have d0 := P5.out.frozen 0
            have d1 := P5.out.frozen 1
            go_simp
            clear c0 c1 d0 d1
            refine hK.out _ _ (LQ.store hH G5 _ _) (fun hH => ?_)
            clear hK K
            replace P5 := Lib.hid (ep_store P5.out a p)
            replace P6 := Lib.hid (ep_other P6.out hne.symm (.int .u32 (a : Int)) (.int .u32 (p : Int)))
            try simp only [Act.put, List.setIfInBounds_toArray, List.set_cons_zero, List.set_cons_succ]
            refine wpAnyH_ready (rs := [7]) (by kernel_rfl) (by simp) (AllReadyH.cons rfl (fun K hK => ?_) (AllReadyH.nil))
            have c0 := P6.out.cell 0 _ rfl
            have c1 := P6.out.cell 1 _ rfl
            have d0 := P6.out.frozen 0
            have d1 := P6.out.frozen 1
            go_simp
            clear c0 c1 d0 d1
            refine hK.out _ _ (LQ.store hH G6 _ _) (fun hH => ?_)
            clear hK K
            replace P6 := Lib.hid (ep_store P6.out a2 p2)
            replace P5 := Lib.hid (ep_other P5.out hne (.int .u32 (a2 : Int)) (.int .u32 (p2 : Int)))
            try simp only [Act.put, List.setIfInBounds_toArray, List.set_cons_zero, List.set_cons_succ]
            refine wpAnyH_done (by kernel_rfl) ?_ _
            go_wp2_with fail
            go_meet
            exact ⟨_, _, rfl, rfl, P5, P6, Lib.hid hH⟩
          · go_simp
            have G6 := LQ.gt hH
            refine hK.out _ _ (LQ.alloc hH _) (fun hH => ?_)
            clear hK K
            have P6 := Lib.hid (LQ.box hH)
            try simp only [Act.put, List.setIfInBounds_toArray, List.set_cons_zero, List.set_cons_succ]
            refine wpAnyH_ready (rs := [4]) (by kernel_rfl) (by simp) (AllReadyH.cons rfl (fun K hK => ?_) (AllReadyH.nil))
            go_simp
            have G5 := LQ.gt hH
            have hlt := P6.out.lt
            refine hK.out _ _ (LQ.alloc hH _) (fun hH => ?_)
            clear hK K
            have P5 := Lib.hid (LQ.box hH)
            replace P6 := Lib.hid (P6.out.alloc (.cells (epc 0 0) 166))
            have hne := Nat.ne_of_gt hlt; clear hlt
            try simp only [Act.put, List.setIfInBounds_toArray, List.set_cons_zero, List.set_cons_succ]
            refine wpAnyH_ready (rs := [6]) (by kernel_rfl) (by simp) (AllReadyH.cons rfl (fun K hK => ?_) (AllReadyH.nil))
            obtain ⟨wz, hwz⟩ := LQ.hide hH
            try simp only [World.size_alloc] at P5 P6 G5 G6 hne
            rw [← hwz] at hH P5 P6 ⊢
            clear hwz
            have c0 := P5.out.cell 0 _ rfl
            have c1 := P5.out.cell 1 _ rfl
            have d0 := P5.out.frozen 0
            have d1 := P5.out.frozen 1
            go_simp
            clear c0 c1 d0 d1
            refine hK.out _ _ (LQ.store hH G5 _ _) (fun hH => ?_)
            clear hK K
            replace P5 := Lib.hid (ep_store P5.out a p)
            replace P6 := Lib.hid (ep_other P6.out hne.symm (.int .u32 (a : Int)) (.int .u32 (p : Int)))
            try simp only [Act.put, List.setIfInBounds_toArray, List.set_cons_zero, List.set_cons_succ]
            refine wpAnyH_ready (rs := [7]) (by kernel_rfl) (by simp) (AllReadyH.cons rfl (fun K hK => ?_) (AllReadyH.nil))
            have c0 := P6.out.cell 0 _ rfl
            have c1 := P6.out.cell 1 _ rfl
            have d0 := P6.out.frozen 0
            have d1 := P6.out.frozen 1
            go_simp
            clear c0 c1 d0 d1
            refine hK.out _ _ (LQ.store hH G6 _ _) (fun hH => ?_)
            clear hK K
            replace P6 := Lib.hid (ep_store P6.out a2 p2)
            replace P5 := Lib.hid (ep_other P5.out hne (.int .u32 (a2 : Int)) (.int .u32 (p2 : Int)))
            try simp only [Act.put, List.setIfInBounds_toArray, List.set_cons_zero, List.set_cons_succ]
            refine wpAnyH_done (by kernel_rfl) ?_ _
            go_wp2_with fail
            go_meet
            exact ⟨_, _, rfl, rfl, P5, P6, Lib.hid hH⟩
        · go_simp
          have G5 := LQ.gt hH
          refine hK.out _ _ (LQ.alloc hH _) (fun hH => ?_)
          clear hK K
          have P5 := Lib.hid (LQ.box hH)
          try simp only [Act.put, List.setIfInBounds_toArray, List.set_cons_zero, List.set_cons_succ]
          refine wpAnyH_ready (rs := [3, 5]) (by kernel_rfl) (by simp) (AllReadyH.cons rfl (fun K hK => ?_) (AllReadyH.cons rfl (fun K hK => ?_) (AllReadyH.nil)))
          · go_simp
            refine (E2.out _).mono ?_
            rintro e w4 ⟨rfl, hbp⟩
            refine hK.out _ _ (LQ.next hH hbp) (fun hH => ?_)
            clear hK K
            replace P5 := Lib.hid (P5.out.next hbp)
            clear hbp
            try simp only [Act.put, List.setIfInBounds_toArray, List.set_cons_zero, List.set_cons_succ]
            refine wpAnyH_ready (rs := [5]) (by kernel_rfl) (by simp) (AllReadyH.cons rfl (fun K hK => ?_) (AllReadyH.nil))
            go_simp
            have G6 := LQ.gt hH
            have hlt := P5.out.lt
            refine hK.out _ _ (LQ.alloc hH _) (fun hH => ?_)
            clear hK K
            have P6 := Lib.hid (LQ.box hH)
            replace P5 := Lib.hid (P5.out.alloc (.cells (epc 0 0) 166))
            have hne := Nat.ne_of_lt hlt; clear hlt
            try simp only [Act.put, List.setIfInBounds_toArray, List.set_cons_zero, List.set_cons_succ]
            refine wpAnyH_ready (rs := [6]) (by kernel_rfl) (by simp) (AllReadyH.cons rfl (fun K hK => ?_) (AllReadyH.nil))
            obtain ⟨wz, hwz⟩ := LQ.hide hH
            try simp only [World.size_alloc] at P5 P6 G5 G6 hne
            rw [← hwz] at hH P5 P6 ⊢
            clear hwz
            have c0 := P5.out.cell 0 _ rfl
            have c1 := P5.out.cell 1 _ rfl
            have d0 := P5.out.frozen 0
            have d1 := P5.out.frozen 1
            go_simp
            clear c0 c1 d0 d1
            refine hK.out _ _ (LQ.store hH G5 _ _) (fun hH => ?_)
            clear hK K
            replace P5 := Lib.hid (ep_store P5.out a p)
            replace P6 := Lib.hid (ep_other P6.out hne.symm (.int .u32 (a : Int)) (.int .u32 (p : Int)))
            try simp only [Act.put, List.setIfInBounds_toArray, List.set_cons_zero, List.set_cons_succ]
            refine wpAnyH_ready (rs := [7]) (by kernel_rfl) (by simp) (AllReadyH.cons rfl (fun K hK => ?_) (AllReadyH.nil))
            have c0 := P6.out.cell 0 _ rfl
            have c1 := P6.out.cell 1 _ rfl
            have d0 := P6.out.frozen 0
            have d1 := P6.out.frozen 1
            go_simp
            clear c0 c1 d0 d1
            refine hK.out _ _ (LQ.store hH G6 _ _) (fun hH => ?_)
            clear hK K
            replace P6 := Lib.hid (ep_store P6.out a2 p2)
            replace P5 := Lib.hid (ep_other P5.out hne (.int .u32 (a2 : Int)) (.int .u32 (p2 : Int)))
            try simp only [Act.put, List.setIfInBounds_toArray, List.set_cons_zero, List.set_cons_succ]
            refine wpAnyH_done (by kernel_rfl) ?_ _
            go_wp2_with fail
            go_meet
            exact ⟨_, _, rfl, rfl, P5, P6, Lib.hid hH⟩
          · go_simp
            have G6 := LQ.gt hH
            have hlt := P5.out.lt
            refine hK.out _ _ (LQ.alloc hH _) (fun hH => ?_)
            clear hK K
            have P6 := Lib.hid (LQ.box hH)
            replace P5 := Lib.hid (P5.out.alloc (.cells (epc 0 0) 166))
            have hne := Nat.ne_of_lt hlt; clear hlt
            try simp only [Act.put, List.setIfInBounds_toArray, List.set_cons_zero, List.set_cons_succ]
            refine wpAnyH_ready (rs := [3]) (by kernel_rfl) (by simp) (AllReadyH.cons rfl (fun K hK => ?_) (AllReadyH.nil))
            go_simp
            refine (E2.out _).mono ?_
            rintro e w5 ⟨rfl, hbp⟩
            refine hK.out _ _ (LQ.next hH hbp) (fun hH => ?_)
            clear hK K
            replace P5 := Lib.hid (P5.out.next hbp)
            replace P6 := Lib.hid (P6.out.next hbp)
            clear hbp
            try simp only [Act.put, List.setIfInBounds_toArray, List.set_cons_zero, List.set_cons_succ]
            refine wpAnyH_ready (rs := [6]) (by kernel_rfl) (by simp) (AllReadyH.cons rfl (fun K hK => ?_) (AllReadyH.nil))
            obtain ⟨wz, hwz⟩ := LQ.hide hH
            try simp only [World.size_alloc] at P5 P6 G5 G6 hne
            rw [← hwz] at hH P5 P6 ⊢
            clear hwz
            have c0 := P5.out.cell 0 _ rfl
            have c1 := P5.out.cell 1 _ rfl
            have d0 := P5.out.frozen 0
            have d1 := P5.out.frozen 1
            go_simp
            clear c0 c1 d0 d1
            refine hK.out _ _ (LQ.store hH G5 _ _) (fun hH => ?_)
            clear hK K
            replace P5 := Lib.hid (ep_store P5.out a p)
            replace P6 := Lib.hid (ep_other P6.out hne.symm (.int .u32 (a : Int)) (.int .u32 (p : Int)))
            try simp only [Act.put, List.setIfInBounds_toArray, List.set_cons_zero, List.set_cons_succ]
            refine wpAnyH_ready (rs := [7]) (by kernel_rfl) (by simp) (AllReadyH.cons rfl (fun K hK => ?_) (AllReadyH.nil))
            have c0 := P6.out.cell 0 _ rfl
            have c1 := P6.out.cell 1 _ rfl
            have d0 := P6.out.frozen 0
            have d1 := P6.out.frozen 1
            go_simp
            clear c0 c1 d0 d1
            refine hK.out _ _ (LQ.store hH G6 _ _) (fun hH => ?_)
            clear hK K
            replace P6 := Lib.hid (ep_store P6.out a2 p2)
            replace P5 := Lib.hid (ep_other P5.out hne (.int .u32 (a2 : Int)) (.int .u32 (p2 : Int)))
            try simp only [Act.put, List.setIfInBounds_toArray, List.set_cons_zero, List.set_cons_succ]
            refine wpAnyH_done (by kernel_rfl) ?_ _
            go_wp2_with fail
            go_meet
            exact ⟨_, _, rfl, rfl, P5, P6, Lib.hid hH⟩
        · go_simp
          have G6 := LQ.gt hH
          refine hK.out _ _ (LQ.alloc hH _) (fun hH => ?_)
          clear hK K
          have P6 := Lib.hid (LQ.box hH)
          try simp only [Act.put, List.setIfInBounds_toArray, List.set_cons_zero, List.set_cons_succ]
          refine wpAnyH_ready (rs := [3, 4]) (by kernel_rfl) (by simp) (AllReadyH.cons rfl (fun K hK => ?_) (AllReadyH.cons rfl (fun K hK => ?_) (AllReadyH.nil)))
          · go_simp
            refine (E2.out _).mono ?_
            rintro e w4 ⟨rfl, hbp⟩
            refine hK.out _ _ (LQ.next hH hbp) (fun hH => ?_)
            clear hK K
            replace P6 := Lib.hid (P6.out.next hbp)
            clear hbp
            try simp only [Act.put, List.setIfInBounds_toArray, List.set_cons_zero, List.set_cons_succ]
            refine wpAnyH_ready (rs := [4]) (by kernel_rfl) (by simp) (AllReadyH.cons rfl (fun K hK => ?_) (AllReadyH.nil))
            go_simp
            have G5 := LQ.gt hH
            have hlt := P6.out.lt
            refine hK.out _ _ (LQ.alloc hH _) (fun hH => ?_)
            clear hK K
            have P5 := Lib.hid (LQ.box hH)
            replace P6 := Lib.hid (P6.out.alloc (.cells (epc 0 0) 166))
            have hne := Nat.ne_of_gt hlt; clear hlt
            try simp only [Act.put, List.setIfInBounds_toArray, List.set_cons_zero, List.set_cons_succ]
            refine wpAnyH_ready (rs := [6]) (by kernel_rfl) (by simp) (AllReadyH.cons rfl (fun K hK => ?_) (AllReadyH.nil))
            obtain ⟨wz, hwz⟩ := LQ.hide hH
            try simp only [World.size_alloc] at P5 P6 G5 G6 hne
            rw [← hwz] at hH P5 P6 ⊢
            clear hwz
            have c0 := P5.out.cell 0 _ rfl
            have c1 := P5.out.cell 1 _ rfl
            have d0 := P5.out.frozen 0
            have d1 := P5.out.frozen 1
            go_simp
            clear c0 c1 d0 d1
            refine hK.out _ _ (LQ.store hH G5 _ _) (fun hH => ?_)
            clear hK K
            replace P5 := Lib.hid (ep_store P5.out a p)
            replace P6 := Lib.hid (ep_other P6.out hne.symm (.int .u32 (a : Int)) (.int .u32 (p : Int)))
            try simp only [Act.put, List.setIfInBounds_toArray, List.set_cons_zero, List.set_cons_succ]
            refine wpAnyH_ready (rs := [7]) (by kernel_rfl) (by simp) (AllReadyH.cons rfl (fun K hK => ?_) (AllReadyH.nil))
            have c0 := P6.out.cell 0 _ rfl
            have c1 := P6.out.cell 1 _ rfl
            have d0 := P6.out.frozen 0
            have d1 := P6.out.frozen 1
            go_simp
            clear c0 c1 d0 d1
            refine hK.out _ _ (LQ.store hH G6 _ _) (fun hH => ?_)
            clear hK K
            replace P6 := Lib.hid (ep_store P6.out a2 p2)
            replace P5 := Lib.hid (ep_other P5.out hne (.int .u32 (a2 : Int)) (.int .u32 (p2 : Int)))
            try simp only [Act.put, List.setIfInBounds_toArray, List.set_cons_zero, List.set_cons_succ]
            refine wpAnyH_done (by kernel_rfl) ?_ _
            go_wp2_with fail
            go_meet
            exact ⟨_, _, rfl, rfl, P5, P6, Lib.hid hH⟩
          · go_simp
            have G5 := LQ.gt hH
            have hlt := P6.out.lt
            refine hK.out _ _ (LQ.alloc hH _) (fun hH => ?_)
            clear hK K
            have P5 := Lib.hid (LQ.box hH)
            replace P6 := Lib.hid (P6.out.alloc (.cells (epc 0 0) 166))
            have hne := Nat.ne_of_gt hlt; clear hlt
            try simp only [Act.put, List.setIfInBounds_toArray, List.set_cons_zero, List.set_cons_succ]
            refine wpAnyH_ready (rs := [3]) (by kernel_rfl) (by simp) (AllReadyH.cons rfl (fun K hK => ?_) (AllReadyH.nil))
            go_simp
            refine (E2.out _).mono ?_
            rintro e w5 ⟨rfl, hbp⟩
            refine hK.out _ _ (LQ.next hH hbp) (fun hH => ?_)
            clear hK K
            replace P5 := Lib.hid (P5.out.next hbp)
            replace P6 := Lib.hid (P6.out.next hbp)
            clear hbp
            try simp only [Act.put, List.setIfInBounds_toArray, List.set_cons_zero, List.set_cons_succ]
            refine wpAnyH_ready (rs := [6]) (by kernel_rfl) (by simp) (AllReadyH.cons rfl (fun K hK => ?_) (AllReadyH.nil))
            obtain ⟨wz, hwz⟩ := LQ.hide hH
            try simp only [World.size_alloc] at P5 P6 G5 G6 hne
            rw [← hwz] at hH P5 P6 ⊢
            clear hwz
            have c0 := P5.out.cell 0 _ rfl
            have c1 := P5.out.cell 1 _ rfl
            have d0 := P5.out.frozen 0
            have d1 := P5.out.frozen 1
            go_simp
            clear c0 c1 d0 d1
            refine hK.out _ _ (LQ.store hH G5 _ _) (fun hH => ?_)
            clear hK K
            replace P5 := Lib.hid (ep_store P5.out a p)
            replace P6 := Lib.hid (ep_other P6.out hne.symm (.int .u32 (a : Int)) (.int .u32 (p : Int)))
            try simp only [Act.put, List.setIfInBounds_toArray, List.set_cons_zero, List.set_cons_succ]
            refine wpAnyH_ready (rs := [7]) (by kernel_rfl) (by simp) (AllReadyH.cons rfl (fun K hK => ?_) (AllReadyH.nil))
            have c0 := P6.out.cell 0 _ rfl
            have c1 := P6.out.cell 1 _ rfl
            have d0 := P6.out.frozen 0
            have d1 := P6.out.frozen 1
            go_simp
            clear c0 c1 d0 d1
            refine hK.out _ _ (LQ.store hH G6 _ _) (fun hH => ?_)
            clear hK K
            replace P6 := Lib.hid (ep_store P6.out a2 p2)
            replace P5 := Lib.hid (ep_other P5.out hne (.int .u32 (a2 : Int)) (.int .u32 (p2 : Int)))
            try simp only [Act.put, List.setIfInBounds_toArray, List.set_cons_zero, List.set_cons_succ]
            refine wpAnyH_done (by kernel_rfl) ?_ _
            go_wp2_with fail
            go_meet
            exact ⟨_, _, rfl, rfl, P5, P6, Lib.hid hH⟩
      · go_simp
        have G5 := LQ.gt hH
        refine hK.out _ _ (LQ.alloc hH _) (fun hH => ?_)
        clear hK K
        have P5 := Lib.hid (LQ.box hH)
        try simp only [Act.put, List.setIfInBounds_toArray, List.set_cons_zero, List.set_cons_succ]
        refine wpAnyH_ready (rs := [1, 5]) (by kernel_rfl) (by simp) (AllReadyH.cons rfl (fun K hK => ?_) (AllReadyH.cons rfl (fun K hK => ?_) (AllReadyH.nil)))
        · go_simp
          refine (E1.out _).mono ?_
          rintro e w3 ⟨rfl, hbp⟩
          refine hK.out _ _ (LQ.next hH hbp) (fun hH => ?_)
          clear hK K
          replace P5 := Lib.hid (P5.out.next hbp)
          clear hbp
          try simp only [Act.put, List.setIfInBounds_toArray, List.set_cons_zero, List.set_cons_succ]
          refine wpAnyH_ready (rs := [3, 5]) (by kernel_rfl) (by simp) (AllReadyH.cons rfl (fun K hK => ?_) (AllReadyH.cons rfl (fun K hK => ?_) (AllReadyH.nil)))
          · go_simp
            refine (E2.out _).mono ?_
            rintro e w4 ⟨rfl, hbp⟩
            refine hK.out _ _ (LQ.next hH hbp) (fun hH => ?_)
            clear hK K
            replace P5 := Lib.hid (P5.out.next hbp)
            clear hbp
            try simp only [Act.put, List.setIfInBounds_toArray, List.set_cons_zero, List.set_cons_succ]
            refine wpAnyH_ready (rs := [5]) (by kernel_rfl) (by simp) (AllReadyH.cons rfl (fun K hK => ?_) (AllReadyH.nil))
            go_simp
            have G6 := LQ.gt hH
            have hlt := P5.out.lt
            refine hK.out _ _ (LQ.alloc hH _) (fun hH => ?_)
            clear hK K
            have P6 := Lib.hid (LQ.box hH)
            replace P5 := Lib.hid (P5.out.alloc (.cells (epc 0 0) 166))
            have hne := Nat.ne_of_lt hlt; clear hlt
            try simp only [Act.put, List.setIfInBounds_toArray, List.set_cons_zero, List.set_cons_succ]
            refine wpAnyH_ready (rs := [6]) (by kernel_rfl) (by simp) (AllReadyH.cons rfl (fun K hK => ?_) (AllReadyH.nil))
            obtain ⟨wz, hwz⟩ := LQ.hide hH
            try simp only [World.size_alloc] at P5 P6 G5 G6 hne
            rw [← hwz] at hH P5 P6 ⊢
            clear hwz
            have c0 := P5.out.cell 0 _ rfl
            have c1 := P5.out.cell 1 _ rfl
            have d0 := P5.out.frozen 0
            have d1 := P5.out.frozen 1
            go_simp
            clear c0 c1 d0 d1
            refine hK.out _ _ (LQ.store hH G5 _ _) (fun hH => ?_)
            clear hK K
            replace P5 := Lib.hid (ep_store P5.out a p)
            replace P6 := Lib.hid (ep_other P6.out hne.symm (.int .u32 (a : Int)) (.int .u32 (p : Int)))
            try simp only [Act.put, List.setIfInBounds_toArray, List.set_cons_zero, List.set_cons_succ]
            refine wpAnyH_ready (rs := [7]) (by kernel_rfl) (by simp) (AllReadyH.cons rfl (fun K hK => ?_) (AllReadyH.nil))
            have c0 := P6.out.cell 0 _ rfl
            have c1 := P6.out.cell 1 _ rfl
            have d0 := P6.out.frozen 0
            have d1 := P6.out.frozen 1
            go_simp
            clear c0 c1 d0 d1
            refine hK.out _ _ (LQ.store hH G6 _ _) (fun hH => ?_)
            clear hK K
            replace P6 := Lib.hid (ep_store P6.out a2 p2)
            replace P5 := Lib.hid (ep_other P5.out hne (.int .u32 (a2 : Int)) (.int .u32 (p2 : Int)))
            try simp only [Act.put, List.setIfInBounds_toArray, List.set_cons_zero, List.set_cons_succ]
            refine wpAnyH_done (by kernel_rfl) ?_ _
            go_wp2_with fail
            go_meet
            exact ⟨_, _, rfl, rfl, P5, P6, Lib.hid hH⟩
          · go_simp
            have G6 := LQ.gt hH
            have hlt := P5.out.lt
            refine hK.out _ _ (LQ.alloc hH _) (fun hH => ?_)
            clear hK K
            have P6 := Lib.hid (LQ.box hH)
            replace P5 := Lib.hid (P5.out.alloc (.cells (epc 0 0) 166))
            have hne := Nat.ne_of_lt hlt; clear hlt
            try simp only [Act.put, List.setIfInBounds_toArray, List.set_cons_zero, List.set_cons_succ]
            refine wpAnyH_ready (rs := [3]) (by kernel_rfl) (by simp) (AllReadyH.cons rfl (fun K hK => ?_) (AllReadyH.nil))
            go_simp
            refine (E2.out _).mono ?_
            rintro e w5 ⟨rfl, hbp⟩
            refine hK.out _ _ (LQ.next hH hbp) (fun hH => ?_)
            clear hK K
            replace P5 := Lib.hid (P5.out.next hbp)
            replace P6 := Lib.hid (P6.out.next hbp)
            clear hbp
            try simp only [Act.put, List.setIfInBounds_toArray, List.set_cons_zero, List.set_cons_succ]
            refine wpAnyH_ready (rs := [6]) (by kernel_rfl) (by simp) (AllReadyH.cons rfl (fun K hK => ?_) (AllReadyH.nil))
            obtain ⟨wz, hwz⟩ := LQ.hide hH
            try simp only [World.size_alloc] at P5 P6 G5 G6 hne
            rw [← hwz] at hH P5 P6 ⊢
            clear hwz
            have c0 := P5.out.cell 0 _ rfl
            have c1 := P5.out.cell 1 _ rfl
            have d0 := P5.out.frozen 0
            have d1 := P5.out.frozen 1
            go_simp
            clear c0 c1 d0 d1
            refine hK.out _ _ (LQ.store hH G5 _ _) (fun hH => ?_)
            clear hK K
            replace P5 := Lib.hid (ep_store P5.out a p)
            replace P6 := Lib.hid (ep_other P6.out hne.symm (.int .u32 (a : Int)) (.int .u32 (p : Int)))
            try simp only [Act.put, List.setIfInBounds_toArray, List.set_cons_zero, List.set_cons_succ]
            refine wpAnyH_ready (rs := [7]) (by kernel_rfl) (by simp) (AllReadyH.cons rfl (fun K hK => ?_) (AllReadyH.nil))
            have c0 := P6.out.cell 0 _ rfl
            have c1 := P6.out.cell 1 _ rfl
            have d0 := P6.out.frozen 0
            have d1 := P6.out.frozen 1
            go_simp
            clear c0 c1 d0 d1
            refine hK.out _ _ (LQ.store hH G6 _ _) (fun hH => ?_)
            clear hK K
            replace P6 := Lib.hid (ep_store P6.out a2 p2)
            replace P5 := Lib.hid (ep_other P5.out hne (.int .u32 (a2 : Int)) (.int .u32 (p2 : Int)))
            try simp only [Act.put, List.setIfInBounds_toArray, List.set_cons_zero, List.set_cons_succ]
            refine wpAnyH_done (by kernel_rfl) ?_ _
            go_wp2_with fail
            go_meet
            exact ⟨_, _, rfl, rfl, P5, P6, Lib.hid hH⟩
        · go_simp
          have G6 := LQ.gt hH
          have hlt := P5.out.lt
          refine hK.out _ _ (LQ.alloc hH _) (fun hH => ?_)
          clear hK K
          have P6 := Lib.hid (LQ.box hH)
          replace P5 := Lib.hid (P5.out.alloc (.cells (epc 0 0) 166))
          have hne := Nat.ne_of_lt hlt; clear hlt
          try simp only [Act.put, List.setIfInBounds_toArray, List.set_cons_zero, List.set_cons_succ]
          refine wpAnyH_ready (rs := [1]) (by kernel_rfl) (by simp) (AllReadyH.cons rfl (fun K hK => ?_) (AllReadyH.nil))
          go_simp
          refine (E1.out _).mono ?_
          rintro e w4 ⟨rfl, hbp⟩
          refine hK.out _ _ (LQ.next hH hbp) (fun hH => ?_)
          clear hK K
          replace P5 := Lib.hid (P5.out.next hbp)
          replace P6 := Lib.hid (P6.out.next hbp)
          clear hbp
          try simp only [Act.put, List.setIfInBounds_toArray, List.set_cons_zero, List.set_cons_succ]
          refine wpAnyH_ready (rs := [3]) (by kernel_rfl) (by simp) (AllReadyH.cons rfl (fun K hK => ?_) (AllReadyH.nil))
          go_simp
          refine (E2.out _).mono ?_
          rintro e w5 ⟨rfl, hbp⟩
          refine hK.out _ _ (LQ.next hH hbp) (fun hH => ?_)
          clear hK K
          replace P5 := Lib.hid (P5.out.next hbp)
          replace P6 := Lib.hid (P6.out.next hbp)
          clear hbp
          try simp only [Act.put, List.setIfInBounds_toArray, List.set_cons_zero, List.set_cons_succ]
          refine wpAnyH_ready (rs := [6]) (by kernel_rfl) (by simp) (AllReadyH.cons rfl (fun K hK => ?_) (AllReadyH.nil))
          obtain ⟨wz, hwz⟩ := LQ.hide hH
          try simp only [World.size_alloc] at P5 P6 G5 G6 hne
          rw [← hwz] at hH P5 P6 ⊢
          clear hwz
          have c0 := P5.out.cell 0 _ rfl
          have c1 := P5.out.cell 1 _ rfl
          have d0 := P5.out.frozen 0
          have d1 := P5.out.frozen 1
          go_simp
          clear c0 c1 d0 d1
          refine hK.out _ _ (LQ.store hH G5 _ _) (fun hH => ?_)
          clear hK K
          replace P5 := Lib.hid (ep_store P5.out a p)
          replace P6 := Lib.hid (ep_other P6.out hne.symm (.int .u32 (a : Int)) (.int .u32 (p : Int)))
          try simp only [Act.put, List.setIfInBounds_toArray, List.set_cons_zero, List.set_cons_succ]
          refine wpAnyH_ready (rs := [7]) (by kernel_rfl) (by simp) (AllReadyH.cons rfl (fun K hK => ?_) (AllReadyH.nil))
          have c0 := P6.out.cell 0 _ rfl
          have c1 := P6.out.cell 1 _ rfl
          have d0 := P6.out.frozen 0
          have d1 := P6.out.frozen 1
          go_simp
          clear c0 c1 d0 d1
          refine hK.out _ _ (LQ.store hH G6 _ _) (fun hH => ?_)
          clear hK K
          replace P6 := Lib.hid (ep_store P6.out a2 p2)
          replace P5 := Lib.hid (ep_other P5.out hne (.int .u32 (a2 : Int)) (.int .u32 (p2 : Int)))
          try simp only [Act.put, List.setIfInBounds_toArray, List.set_cons_zero, List.set_cons_succ]
          refine wpAnyH_done (by kernel_rfl) ?_ _
          go_wp2_with fail
          go_meet
          exact ⟨_, _, rfl, rfl, P5, P6, Lib.hid hH⟩
      · go_simp
        have G6 := LQ.gt hH
        refine hK.out _ _ (LQ.alloc hH _) (fun hH => ?_)
        clear hK K
        have P6 := Lib.hid (LQ.box hH)
        try simp only [Act.put, List.setIfInBounds_toArray, List.set_cons_zero, List.set_cons_succ]
        refine wpAnyH_ready (rs := [1, 4]) (by kernel_rfl) (by simp) (AllReadyH.cons rfl (fun K hK => ?_) (AllReadyH.cons rfl (fun K hK => ?_) (AllReadyH.nil)))
        · go_simp
          refine (E1.out _).mono ?_
          rintro e w3 ⟨rfl, hbp⟩
          refine hK.out _ _ (LQ.next hH hbp) (fun hH => ?_)
          clear hK K
          replace P6 := Lib.hid (P6.out.next hbp)
          clear hbp
          try simp only [Act.put, List.setIfInBounds_toArray, List.set_cons_zero, List.set_cons_succ]
          refine wpAnyH_ready (rs := [3, 4]) (by kernel_rfl) (by simp) (AllReadyH.cons rfl (fun K hK => ?_) (AllReadyH.cons rfl (fun K hK => ?_) (AllReadyH.nil)))
          · go_simp
            refine (E2.out _).mono ?_
            rintro e w4 ⟨rfl, hbp⟩
            refine hK.out _ _ (LQ.next hH hbp) (fun hH => ?_)
            clear hK K
            replace P6 := Lib.hid (P6.out.next hbp)
            clear hbp
            try simp only [Act.put, List.setIfInBounds_toArray, List.set_cons_zero, List.set_cons_succ]
            refine wpAnyH_ready (rs := [4]) (by kernel_rfl) (by simp) (AllReadyH.cons rfl (fun K hK => ?_) (AllReadyH.nil))
            go_simp
            have G5 := LQ.gt hH
            have hlt := P6.out.lt
            refine hK.out _ _ (LQ.alloc hH _) (fun hH => ?_)
            clear hK K
            have P5 := Lib.hid (LQ.box hH)
            replace P6 := Lib.hid (P6.out.alloc (.cells (epc 0 0) 166))
            have hne := Nat.ne_of_gt hlt; clear hlt
            try simp only [Act.put, List.setIfInBounds_toArray, List.set_cons_zero, List.set_cons_succ]
            refine wpAnyH_ready (rs := [6]) (by kernel_rfl) (by simp) (AllReadyH.cons rfl (fun K hK => ?_) (AllReadyH.nil))
            obtain ⟨wz, hwz⟩ := LQ.hide hH
            try simp only [World.size_alloc] at P5 P6 G5 G6 hne
            rw [← hwz] at hH P5 P6 ⊢
            clear hwz
            have c0 := P5.out.cell 0 _ rfl
            have c1 := P5.out.cell 1 _ rfl
            have d0 := P5.out.frozen 0
            have d1 := P5.out.frozen 1
            go_simp
            clear c0 c1 d0 d1
            refine hK.out _ _ (LQ.store hH G5 _ _) (fun hH => ?_)
            clear hK K
            replace P5 := Lib.hid (ep_store P5.out a p)
            replace P6 := Lib.hid (ep_other P6.out hne.symm (.int .u32 (a : Int)) (.int .u32 (p : Int)))
            try simp only [Act.put, List.setIfInBounds_toArray, List.set_cons_zero, List.set_cons_succ]
            refine wpAnyH_ready (rs := [7]) (by kernel_rfl) (by simp) (AllReadyH.cons rfl (fun K hK => ?_) (AllReadyH.nil))
            have c0 := P6.out.cell 0 _ rfl
            have c1 := P6.out.cell 1 _ rfl
            have d0 := P6.out.frozen 0
            have d1 := P6.out.frozen 1
            go_simp
            clear c0 c1 d0 d1
            refine hK.out _ _ (LQ.store hH G6 _ _) (fun hH => ?_)
            clear hK K
            replace P6 := Lib.hid (ep_store P6.out a2 p2)
            replace P5 := Lib.hid (ep_other P5.out hne (.int .u32 (a2 : Int)) (.int .u32 (p2 : Int)))
            try simp only [Act.put, List.setIfInBounds_toArray, List.set_cons_zero, List.set_cons_succ]
            refine wpAnyH_done (by kernel_rfl) ?_ _
            go_wp2_with fail
            go_meet
            exact ⟨_, _, rfl, rfl, P5, P6, Lib.hid hH⟩
          · go_simp
            have G5 := LQ.gt hH
            have hlt := P6.out.lt
            refine hK.out _ _ (LQ.alloc hH _) (fun hH => ?_)
            clear hK K
            have P5 := Lib.hid (LQ.box hH)
            replace P6 := Lib.hid (P6.out.alloc (.cells (epc 0 0) 166))
            have hne := Nat.ne_of_gt hlt; clear hlt
            try simp only [Act.put, List.setIfInBounds_toArray, List.set_cons_zero, List.set_cons_succ]
            refine wpAnyH_ready (rs := [3]) (by kernel_rfl) (by simp) (AllReadyH.cons rfl (fun K hK => ?_) (AllReadyH.nil))
            go_simp
            refine (E2.out _).mono ?_
            rintro e w5 ⟨rfl, hbp⟩
            refine hK.out _ _ (LQ.next hH hbp) (fun hH => ?_)
            clear hK K
            replace P5 := Lib.hid (P5.out.next hbp)
            replace P6 := Lib.hid (P6.out.next hbp)
            clear hbp
            try simp only [Act.put, List.setIfInBounds_toArray, List.set_cons_zero, List.set_cons_succ]
            refine wpAnyH_ready (rs := [6]) (by kernel_rfl) (by simp) (AllReadyH.cons rfl (fun K hK => ?_) (AllReadyH.nil))
            obtain ⟨wz, hwz⟩ := LQ.hide hH
            try simp only [World.size_alloc] at P5 P6 G5 G6 hne
            rw [← hwz] at hH P5 P6 ⊢
            clear hwz
            have c0 := P5.out.cell 0 _ rfl
            have c1 := P5.out.cell 1 _ rfl
            have d0 := P5.out.frozen 0
            have d1 := P5.out.frozen 1
            go_simp
            clear c0 c1 d0 d1
            refine hK.out _ _ (LQ.store hH G5 _ _) (fun hH => ?_)
            clear hK K
            replace P5 := Lib.hid (ep_store P5.out a p)
            replace P6 := Lib.hid (ep_other P6.out hne.symm (.int .u32 (a : Int)) (.int .u32 (p : Int)))
            try simp only [Act.put, List.setIfInBounds_toArray, List.set_cons_zero, List.set_cons_succ]
            refine wpAnyH_ready (rs := [7]) (by kernel_rfl) (by simp) (AllReadyH.cons rfl (fun K hK => ?_) (AllReadyH.nil))
            have c0 := P6.out.cell 0 _ rfl
            have c1 := P6.out.cell 1 _ rfl
            have d0 := P6.out.frozen 0
            have d1 := P6.out.frozen 1
            go_simp
            clear c0 c1 d0 d1
            refine hK.out _ _ (LQ.store hH G6 _ _) (fun hH => ?_)
            clear hK K
            replace P6 := Lib.hid (ep_store P6.out a2 p2)
            replace P5 := Lib.hid (ep_other P5.out hne (.int .u32 (a2 : Int)) (.int .u32 (p2 : Int)))
            try simp only [Act.put, List.setIfInBounds_toArray, List.set_cons_zero, List.set_cons_succ]
            refine wpAnyH_done (by kernel_rfl) ?_ _
            go_wp2_with fail
            go_meet
            exact ⟨_, _, rfl, rfl, P5, P6, Lib.hid hH⟩
        · go_simp
          have G5 := LQ.gt hH
          have hlt := P6.out.lt
          refine hK.out _ _ (LQ.alloc hH _) (fun hH => ?_)
          clear hK K
          have P5 := Lib.hid (LQ.box hH)
          replace P6 := Lib.hid (P6.out.alloc (.cells (epc 0 0) 166))
          have hne := Nat.ne_of_gt hlt; clear hlt
          try simp only [Act.put, List.setIfInBounds_toArray, List.set_cons_zero, List.set_cons_succ]
          refine wpAnyH_ready (rs := [1]) (by kernel_rfl) (by simp) (AllReadyH.cons rfl (fun K hK => ?_) (AllReadyH.nil))
          go_simp
          refine (E1.out _).mono ?_
          rintro e w4 ⟨rfl, hbp⟩
          refine hK.out _ _ (LQ.next hH hbp) (fun hH => ?_)
          clear hK K
          replace P5 := Lib.hid (P5.out.next hbp)
          replace P6 := Lib.hid (P6.out.next hbp)
          clear hbp
          try simp only [Act.put, List.setIfInBounds_toArray, List.set_cons_zero, List.set_cons_succ]
          refine wpAnyH_ready (rs := [3]) (by kernel_rfl) (by simp) (AllReadyH.cons rfl (fun K hK => ?_) (AllReadyH.nil))
          go_simp
          refine (E2.out _).mono ?_
          rintro e w5 ⟨rfl, hbp⟩
          refine hK.out _ _ (LQ.next hH hbp) (fun hH => ?_)
          clear hK K
          replace P5 := Lib.hid (P5.out.next hbp)
          replace P6 := Lib.hid (P6.out.next hbp)
          clear hbp
          try simp only [Act.put, List.setIfInBounds_toArray, List.set_cons_zero, List.set_cons_succ]
          refine wpAnyH_ready (rs := [6]) (by kernel_rfl) (by simp) (AllReadyH.cons rfl (fun K hK => ?_) (AllReadyH.nil))
          obtain ⟨wz, hwz⟩ := LQ.hide hH
          try simp only [World.size_alloc] at P5 P6 G5 G6 hne
          rw [← hwz] at hH P5 P6 ⊢
          clear hwz
          have c0 := P5.out.cell 0 _ rfl
          have c1 := P5.out.cell 1 _ rfl
          have d0 := P5.out.frozen 0
          have d1 := P5.out.frozen 1
          go_simp
          clear c0 c1 d0 d1
          refine hK.out _ _ (LQ.store hH G5 _ _) (fun hH => ?_)
          clear hK K
          replace P5 := Lib.hid (ep_store P5.out a p)
          replace P6 := Lib.hid (ep_other P6.out hne.symm (.int .u32 (a : Int)) (.int .u32 (p : Int)))
          try simp only [Act.put, List.setIfInBounds_toArray, List.set_cons_zero, List.set_cons_succ]
          refine wpAnyH_ready (rs := [7]) (by kernel_rfl) (by simp) (AllReadyH.cons rfl (fun K hK => ?_) (AllReadyH.nil))
          have c0 := P6.out.cell 0 _ rfl
          have c1 := P6.out.cell 1 _ rfl
          have d0 := P6.out.frozen 0
          have d1 := P6.out.frozen 1
          go_simp
          clear c0 c1 d0 d1
          refine hK.out _ _ (LQ.store hH G6 _ _) (fun hH => ?_)
          clear hK K
          replace P6 := Lib.hid (ep_store P6.out a2 p2)
          replace P5 := Lib.hid (ep_other P5.out hne (.int .u32 (a2 : Int)) (.int .u32 (p2 : Int)))
          try simp only [Act.put, List.setIfInBounds_toArray, List.set_cons_zero, List.set_cons_succ]
          refine wpAnyH_done (by kernel_rfl) ?_ _
          go_wp2_with fail
          go_meet
          exact ⟨_, _, rfl, rfl, P5, P6, Lib.hid hH⟩

    case rest =>
      obtain ⟨g5, g6, rfl, rfl, H5, H6, H7⟩ := hcut
      have c0 := H5.out.cell 0 _ rfl
      have c1 := H5.out.cell 1 _ rfl
      have c2 := H6.out.cell 0 _ rfl
      have c3 := H6.out.cell 1 _ rfl
      by_cases h2 : a ≠ a2 ∨ p ≠ p2
      · have HL := Lib.hid (lower_any a p a2 p2 g ((if_pos h2).symm.trans HG.out))
        by_cases h3 : a = a2
        · subst h3
          have EQ := ep_diff a p a p2 (by omega)
          clear h2
          go_wp2_with fail
          refine (HL.out _).mono ?_
          rintro e w2 ⟨rfl, hbp⟩
          go_wp2_with fail
          go_ret
          exact ⟨rfl, H7.out.2.2.trans (hbp.mono H7.out.2.2.size)⟩
        · have EQ := ep_diff a p a2 p2 (by omega)
          clear h2 h3
          go_wp2_with fail
          refine (HL.out _).mono ?_
          rintro e w2 ⟨rfl, hbp⟩
          go_wp2_with fail
          go_ret
          exact ⟨rfl, H7.out.2.2.trans (hbp.mono H7.out.2.2.size)⟩
      · have HL := Lib.hid (lower_any b q b2 q2 g ((if_neg h2).symm.trans HG.out))
        obtain rfl : a = a2 := by omega
        obtain rfl : p = p2 := by omega
        have EQ := ep_same a p
        have E3 := Lib.hid (end_any a b p q r hp hq 1 b q (Or.inr ⟨rfl, rfl, rfl⟩))
        have E4 := Lib.hid (end_any a b2 p q2 r hp2 hq2 1 b2 q2 (Or.inr ⟨rfl, rfl, rfl⟩))
        clear h2
        go_wp2_with fail
        refine wp_region_held_drew (S := fun w' => LQ W (kyc a b p q r) (kyc a b2 p q2 r) w') (by kernel_rfl) (H7.out.drew) (fun hH => ?_)
        obtain ⟨wy, hwy⟩ := LQ.hide hH
        rw [← hwy] at hH ⊢
        clear hwy
        refine wpAnyH_take (i := 0) (oi := ⟨some 27, _, _, _, _, _⟩) (v := ?v3) rfl (by kernel_rfl) (by kernel_rfl) (by kernel_rfl) (fun _ _ _ h => h) (Or.inl ⟨rfl, ?c3⟩) hH ?r3
        case c3 => (intro w' hS; obtain ⟨x0, x1, x2, x3, x4⟩ := ky_cells hS.1; go_simp; (try with_reducible rfl))
        try simp only [Act.put, List.setIfInBounds_toArray, List.set_cons_zero, List.set_cons_succ]
        refine wpAnyH_take (i := 2) (oi := ⟨some 29, _, _, _, _, _⟩) (v := ?v4) rfl (by kernel_rfl) (by kernel_rfl) (by kernel_rfl) (fun _ _ _ h => h) (Or.inl ⟨rfl, ?c4⟩) hH ?r4
        case c4 => (intro w' hS; obtain ⟨x0, x1, x2, x3, x4⟩ := ky_cells hS.2.1; go_simp; (try with_reducible rfl))
        try simp only [Act.put, List.setIfInBounds_toArray, List.set_cons_zero, List.set_cons_succ]
        refine wpAnyH_ready (rs := [1]) (by kernel_rfl) (by simp) (AllReadyH.cons rfl (fun K hK => ?_) (AllReadyH.nil))
        go_simp
        refine (E3.out _).mono ?_
        rintro e w2 ⟨rfl, hbp⟩
        refine hK.out _ _ (LQ.next hH hbp) (fun hH => ?_)
        clear hK K
        clear hbp
        try simp only [Act.put, List.setIfInBounds_toArray, List.set_cons_zero, List.set_cons_succ]
        refine wpAnyH_ready (rs := [3]) (by kernel_rfl) (by simp) (AllReadyH.cons rfl (fun K hK => ?_) (AllReadyH.nil))
        go_simp
        refine (E4.out _).mono ?_
        rintro e w3 ⟨rfl, hbp⟩
        refine hK.out _ _ (LQ.next hH hbp) (fun hH => ?_)
        clear hK K
        clear hbp
        try simp only [Act.put, List.setIfInBounds_toArray, List.set_cons_zero, List.set_cons_succ]
        refine wpAnyH_ready (rs := [4]) (by kernel_rfl) (by simp) (AllReadyH.cons rfl (fun K hK => ?_) (AllReadyH.nil))
        go_simp
        refine (HL.out _).mono ?_
        rintro e w4 ⟨rfl, hbp⟩
        refine hK.out _ _ (LQ.next hH hbp) (fun hH => ?_)
        clear hK K
        clear hbp
        try simp only [Act.put, List.setIfInBounds_toArray, List.set_cons_zero, List.set_cons_succ]
        refine wpAnyH_take (i := 5) (oi := ⟨some 4, _, _, _, _, _⟩) (v := ?v5) rfl (by kernel_rfl) (by kernel_rfl) (by kernel_rfl) (fun _ _ _ h => h) (Or.inl ⟨rfl, ?c5⟩) hH ?r5
        case c5 => (intro w' _; go_simp; (try with_reducible rfl))
        try simp only [Act.put, List.setIfInBounds_toArray, List.set_cons_zero, List.set_cons_succ]
        refine wpAnyH_done (by kernel_rfl) ?_ _
        go_wp2_with fail
        go_ret
        exact ⟨rfl, hH.2.2⟩

  · rw [if_pos h1] at hg
    have d0 : ((r : Int) != r2) = true := by simp; omega
    have HG := Lib.hid hg
    clear hg h1
    go_enter Tryz.func123, Tryz.ntmps123
    go_wp2
    go_ret
    exact ⟨by rw [← HG.out]; rfl, HB0.out⟩
end Ky
end Go.Proofs.YtcockldefmmhbaaGreatDoor
/- Layer 10: awake. -/
set_option linter.unusedVariables false
set_option linter.unusedSimpArgs false
namespace Go.Proofs.YtcockldefmmhbaaGreatDoor
open Go.ChangeShapes Go.WideShapes Go.ChangeAt Go.RowKit Go.Mtl
namespace Ky
open KeyM (lowB lessB hashN isPow)

/-- Two keys in their blocks. -/
def AQ (W : World) (g k : Nat) (ka kb : Array Value) (w : World) : Prop := Blk w g ka 87 ∧ Blk w k kb 87 ∧ Below W.heap.size W w
theorem AQ.next {W w w' : World} {g k : Nat} {ka kb : Array Value} (H : AQ W g k ka kb w) (hb : Below w.heap.size w w') : AQ W g k ka kb w' := ⟨H.1.next hb, H.2.1.next hb, H.2.2.trans (hb.mono H.2.2.size)⟩
theorem AQ.drew {W w : World} {g k : Nat} {ka kb : Array Value} (H : AQ W g k ka kb w) : AQ W g k ka kb w.drew := ⟨H.1.drew, H.2.1.drew, H.2.2.drew⟩
end Ky
end Go.Proofs.YtcockldefmmhbaaGreatDoor
/- Layer 10: the walk of KeyHash. -/
set_option linter.unusedVariables false
set_option linter.unusedSimpArgs false
namespace Go.Proofs.YtcockldefmmhbaaGreatDoor
open Go.ChangeShapes Go.WideShapes Go.ChangeAt Go.RowKit Go.Mtl
namespace Ky
open KeyM (lowB lessB hashN isPow strN)

theorem stripe_any (a b p q r : Nat) (s : Int) (ha : a < 4294967296) (hb : b < 4294967296) (hp : p < 65536) (hq : q < 65536) (hr : r < 256) (x : Nat) (hx : hashN a b p q r = x) (y : Int) (hy : strN x s = y) (W : World) :
    Calls Tryz.prog 66 #[.agg (kyc a b p q r), .int .i64 s] W fun e w' => e = .returned (.int .i64 y) ∧ Below W.heap.size W w' := by
  rcases hs : isPow s with _ | _
  · rw [KeyM.strN_no hs] at hy
    subst hy
    exact stripe_no a b p q r s hs W
  · rw [KeyM.strN_yes hs] at hy
    subst hy
    exact stripe_yes a b p q r s hs ha hb hp hq hr x hx W
end Ky
end Go.Proofs.YtcockldefmmhbaaGreatDoor
