/- Layer 15: the table of the word's parts (Env), and the contracts of flow.get and flow.put. -/
import Derived.Test.YtdjbiaifblmckaaDoorRows
import Derived.Test.YtdjbiaifblmckaaDoorFloM
import Derived.Test.YtdjbiaifblmckaaDoorFldA
import Derived.Test.YtdjbiaifblmckaaDoorComB
import Derived.Test.YtdjbiaifblmckaaDoorComS
import Derived.BigQuiet
import Derived.IntWalk
set_option linter.unusedVariables false
set_option linter.unusedSimpArgs false
namespace Go.Proofs.YtdjbiaifblmckaaDoor
open Go.ChangeShapes Go.WideShapes Go.ChangeAt Go.RowKit Go.Mtl
namespace Fl
open FloM (gI Fit)

theorem gParts : Tryd.prog.globalNamed "mantlet/flow.parts" = some 0 := by kernel_rfl

/-- What the table of parts holds. -/
structure Env (w : World) : Prop where
  c0 : w.cell? ⟨0, 0, none⟩ = some (.int .i64 0)
  c1 : w.cell? ⟨0, 1, none⟩ = some (.int .i64 40)
  c2 : w.cell? ⟨0, 2, none⟩ = some (.int .i64 1099511627775)
  c3 : w.cell? ⟨0, 3, none⟩ = some (.int .i64 40)
  c4 : w.cell? ⟨0, 4, none⟩ = some (.int .i64 20)
  c5 : w.cell? ⟨0, 5, none⟩ = some (.int .i64 1048575)
  c6 : w.cell? ⟨0, 6, none⟩ = some (.int .i64 60)
  c7 : w.cell? ⟨0, 7, none⟩ = some (.int .i64 4)
  c8 : w.cell? ⟨0, 8, none⟩ = some (.int .i64 15)
theorem Env.lt {w : World} (h : Env w) : 0 < w.heap.size := World.block_lt_of_cell? _ _ h.c0
theorem Env.below {w w' : World} (h : Env w) {B : Nat} (hb : Below B w w') (hB : w.heap.size ≤ B) : Env w' := by
  have hlt := h.lt
  have k : ∀ i, w'.cell? ⟨0, i, none⟩ = w.cell? ⟨0, i, none⟩ := fun i => hb.cell (Nat.lt_of_lt_of_le hlt hB)
  exact ⟨(k 0).trans h.c0, (k 1).trans h.c1, (k 2).trans h.c2, (k 3).trans h.c3, (k 4).trans h.c4, (k 5).trans h.c5, (k 6).trans h.c6, (k 7).trans h.c7, (k 8).trans h.c8⟩
theorem Env.alloc {w : World} (h : Env w) (o : Obj) : Env (w.alloc o) := h.below ((Below.refl _ _).alloc (Nat.le_refl _) o) (Nat.le_refl _)
theorem Env.drewN {w : World} (h : Env w) (n : Nat) : Env (w.drewN n) := ⟨h.c0, h.c1, h.c2, h.c3, h.c4, h.c5, h.c6, h.c7, h.c8⟩

theorem fget_c {c k v : Int} (h : Fit c k v) (W : World) :
    Calls Tryd.prog 20 #[.int .u64 (gI c k v), .int .i64 0, .int .i64 40] W fun e w' => e = .returned (.int .u64 c) ∧ ∃ n, w' = W.drewN n := by
  have := Fld.get_yes (gI c k v) 0 40 (FloM.gI_lo h) (FloM.gI_hi h) (by omega) (by omega) (by omega) W
  unfold Fld.getI at this
  rwa [FloM.get_c h] at this
theorem fget_k {c k v : Int} (h : Fit c k v) (W : World) :
    Calls Tryd.prog 20 #[.int .u64 (gI c k v), .int .i64 40, .int .i64 20] W fun e w' => e = .returned (.int .u64 k) ∧ ∃ n, w' = W.drewN n := by
  have := Fld.get_yes (gI c k v) 40 20 (FloM.gI_lo h) (FloM.gI_hi h) (by omega) (by omega) (by omega) W
  unfold Fld.getI at this
  rwa [FloM.get_k h] at this
theorem fget_v {c k v : Int} (h : Fit c k v) (W : World) :
    Calls Tryd.prog 20 #[.int .u64 (gI c k v), .int .i64 60, .int .i64 4] W fun e w' => e = .returned (.int .u64 v) ∧ ∃ n, w' = W.drewN n := by
  have := Fld.get_yes (gI c k v) 60 4 (FloM.gI_lo h) (FloM.gI_hi h) (by omega) (by omega) (by omega) W
  unfold Fld.getI at this
  rwa [FloM.get_v h] at this
theorem fput_c {c k v n : Int} (h : Fit c k v) (h0 : 0 ≤ n) (h1 : n < 1099511627776) (W : World) :
    Calls Tryd.prog 19 #[.int .u64 (gI c k v), .int .i64 0, .int .i64 40, .int .u64 n] W fun e w' => e = .returned (.int .u64 (gI n k v)) ∧ ∃ n, w' = W.drewN n := by
  have := Fld.put_yes (gI c k v) 0 40 n (FloM.gI_lo h) (FloM.gI_hi h) h0 (by omega) (by omega) (by omega) (by omega) W
  unfold Fld.putI at this
  rwa [FloM.put_c h h0 h1] at this
theorem fput_k {c k v n : Int} (h : Fit c k v) (h0 : 0 ≤ n) (h1 : n < 1048576) (W : World) :
    Calls Tryd.prog 19 #[.int .u64 (gI c k v), .int .i64 40, .int .i64 20, .int .u64 n] W fun e w' => e = .returned (.int .u64 (gI c n v)) ∧ ∃ n, w' = W.drewN n := by
  have := Fld.put_yes (gI c k v) 40 20 n (FloM.gI_lo h) (FloM.gI_hi h) h0 (by omega) (by omega) (by omega) (by omega) W
  unfold Fld.putI at this
  rwa [FloM.put_k h h0 h1] at this
theorem fput_v {c k v n : Int} (h : Fit c k v) (h0 : 0 ≤ n) (h1 : n < 18446744073709551616) (W : World) :
    Calls Tryd.prog 19 #[.int .u64 (gI c k v), .int .i64 60, .int .i64 4, .int .u64 n] W fun e w' => e = .returned (.int .u64 (gI c k (n % 16))) ∧ ∃ n, w' = W.drewN n := by
  have := Fld.put_yes (gI c k v) 60 4 n (FloM.gI_lo h) (FloM.gI_hi h) h0 (by omega) (by omega) (by omega) (by omega) W
  unfold Fld.putI at this
  rwa [FloM.put_v h h0] at this

set_option maxHeartbeats 1000000 in
theorem get_c {c k v : Int} (h : Fit c k v) (W : World) (he : Env W) :
    Calls Tryd.prog 18 #[.int .u64 (gI c k v), .int .i64 0] W fun e w' => e = .returned (.int .i64 c) ∧ ∃ n, w' = W.drewN n := by
  have H := Lib.hid h
  obtain ⟨b0, b1, b2, b3, b4, b5⟩ := h
  have x0 := he.c0
  have x1 := he.c1
  have hw : wrap64 c = c := IntWalk.wrap64_in _ (by omega)
  clear he b0 b1 b2 b3 b4 b5
  go_enter Tryd.func18, Tryd.ntmps18
  go_wp2_with fail
  refine region_still_tail 9 (by kernel_rfl) (by kernel_rfl) W.drew rfl ?_
  simp only [List.take_succ_cons, List.take_zero, List.drop_succ_cons, List.drop_zero]
  repeat still_step
  refine wpStill_nil ?_
  go_wp2_with (go_at_call 20; refine (fget_c H.out _).mono ?_; rintro e w' ⟨rfl, nq, rfl⟩)
  go_ret
  refine ⟨?_, 1 + nq, rfl⟩
  show Ending.returned (.int .i64 (wrap64 c)) = _
  rw [hw]
set_option maxHeartbeats 1000000 in
theorem get_k {c k v : Int} (h : Fit c k v) (W : World) (he : Env W) :
    Calls Tryd.prog 18 #[.int .u64 (gI c k v), .int .i64 1] W fun e w' => e = .returned (.int .i64 k) ∧ ∃ n, w' = W.drewN n := by
  have H := Lib.hid h
  obtain ⟨b0, b1, b2, b3, b4, b5⟩ := h
  have x0 := he.c3
  have x1 := he.c4
  have hw : wrap64 k = k := IntWalk.wrap64_in _ (by omega)
  clear he b0 b1 b2 b3 b4 b5
  go_enter Tryd.func18, Tryd.ntmps18
  go_wp2_with fail
  refine region_still_tail 9 (by kernel_rfl) (by kernel_rfl) W.drew rfl ?_
  simp only [List.take_succ_cons, List.take_zero, List.drop_succ_cons, List.drop_zero]
  repeat still_step
  refine wpStill_nil ?_
  go_wp2_with (go_at_call 20; refine (fget_k H.out _).mono ?_; rintro e w' ⟨rfl, nq, rfl⟩)
  go_ret
  refine ⟨?_, 1 + nq, rfl⟩
  show Ending.returned (.int .i64 (wrap64 k)) = _
  rw [hw]
set_option maxHeartbeats 1000000 in
theorem get_v {c k v : Int} (h : Fit c k v) (W : World) (he : Env W) :
    Calls Tryd.prog 18 #[.int .u64 (gI c k v), .int .i64 2] W fun e w' => e = .returned (.int .i64 v) ∧ ∃ n, w' = W.drewN n := by
  have H := Lib.hid h
  obtain ⟨b0, b1, b2, b3, b4, b5⟩ := h
  have x0 := he.c6
  have x1 := he.c7
  have hw : wrap64 v = v := IntWalk.wrap64_in _ (by omega)
  clear he b0 b1 b2 b3 b4 b5
  go_enter Tryd.func18, Tryd.ntmps18
  go_wp2_with fail
  refine region_still_tail 9 (by kernel_rfl) (by kernel_rfl) W.drew rfl ?_
  simp only [List.take_succ_cons, List.take_zero, List.drop_succ_cons, List.drop_zero]
  repeat still_step
  refine wpStill_nil ?_
  go_wp2_with (go_at_call 20; refine (fget_v H.out _).mono ?_; rintro e w' ⟨rfl, nq, rfl⟩)
  go_ret
  refine ⟨?_, 1 + nq, rfl⟩
  show Ending.returned (.int .i64 (wrap64 v)) = _
  rw [hw]
set_option maxHeartbeats 1000000 in
theorem put_c {c k v n : Int} (h : Fit c k v) (h0 : 0 ≤ n) (h1 : n < 1099511627776) (W : World) (he : Env W) :
    Calls Tryd.prog 16 #[.int .u64 (gI c k v), .int .i64 0, .int .i64 n] W fun e w' => e = .returned (.int .u64 (gI n k v)) ∧ ∃ n, w' = W.drewN n := by
  have H := Lib.hid h
  have H0 := Lib.hid h0
  have H1 := Lib.hid h1
  have x0 := he.c0
  have x1 := he.c1
  have hw : IntKind.u64.wrap n = n := by rw [IntKind.wrap_u64]; omega
  clear he h
  go_enter Tryd.func16, Tryd.ntmps16
  go_wp2_with fail
  refine region_still_tail 11 (by kernel_rfl) (by kernel_rfl) W.drew rfl ?_
  simp only [List.take_succ_cons, List.take_zero, List.drop_succ_cons, List.drop_zero]
  repeat still_step
  refine wpStill_nil ?_
  go_wp2_with (go_at_call 19; refine (fput_c H.out H0.out H1.out _).mono ?_; rintro e w' ⟨rfl, nq, rfl⟩)
  go_ret
  exact ⟨rfl, 1 + nq, rfl⟩
set_option maxHeartbeats 1000000 in
theorem put_k {c k v n : Int} (h : Fit c k v) (h0 : 0 ≤ n) (h1 : n < 1048576) (W : World) (he : Env W) :
    Calls Tryd.prog 16 #[.int .u64 (gI c k v), .int .i64 1, .int .i64 n] W fun e w' => e = .returned (.int .u64 (gI c n v)) ∧ ∃ n, w' = W.drewN n := by
  have H := Lib.hid h
  have H0 := Lib.hid h0
  have H1 := Lib.hid h1
  have x0 := he.c3
  have x1 := he.c4
  have hw : IntKind.u64.wrap n = n := by rw [IntKind.wrap_u64]; omega
  clear he h
  go_enter Tryd.func16, Tryd.ntmps16
  go_wp2_with fail
  refine region_still_tail 11 (by kernel_rfl) (by kernel_rfl) W.drew rfl ?_
  simp only [List.take_succ_cons, List.take_zero, List.drop_succ_cons, List.drop_zero]
  repeat still_step
  refine wpStill_nil ?_
  go_wp2_with (go_at_call 19; refine (fput_k H.out H0.out H1.out _).mono ?_; rintro e w' ⟨rfl, nq, rfl⟩)
  go_ret
  exact ⟨rfl, 1 + nq, rfl⟩
set_option maxHeartbeats 1000000 in
theorem put_v {c k v n : Int} (h : Fit c k v) (W : World) (he : Env W) :
    Calls Tryd.prog 16 #[.int .u64 (gI c k v), .int .i64 2, .int .i64 n] W fun e w' => e = .returned (.int .u64 (gI c k (n % 16))) ∧ ∃ n, w' = W.drewN n := by
  have H := Lib.hid h
  have hb : 0 ≤ IntKind.u64.wrap n ∧ IntKind.u64.wrap n < 18446744073709551616 := by rw [IntKind.wrap_u64]; omega
  have hq : IntKind.u64.wrap n % 16 = n % 16 := by rw [IntKind.wrap_u64]; omega
  have HC := Lib.hid (fun W => fput_v (n := IntKind.u64.wrap n) h hb.1 hb.2 W)
  rw [hq] at HC
  have x0 := he.c6
  have x1 := he.c7
  clear he h hb hq
  go_enter Tryd.func16, Tryd.ntmps16
  go_wp2_with fail
  refine region_still_tail 11 (by kernel_rfl) (by kernel_rfl) W.drew rfl ?_
  simp only [List.take_succ_cons, List.take_zero, List.drop_succ_cons, List.drop_zero]
  repeat still_step
  refine wpStill_nil ?_
  go_wp2_with (go_at_call 19; refine (HC.out _).mono ?_; rintro e w' ⟨rfl, nq, rfl⟩)
  go_ret
  exact ⟨rfl, 1 + nq, rfl⟩
end Fl
end Go.Proofs.YtdjbiaifblmckaaDoor
