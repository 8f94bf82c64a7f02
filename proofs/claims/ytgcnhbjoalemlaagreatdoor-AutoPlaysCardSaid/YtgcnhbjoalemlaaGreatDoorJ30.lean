/- Several texts of this proof in one file, each in its own namespace. -/
import Derived.Test.YtgcnhbjoalemlaaGreatDoorRows
import Derived.Test.YtgcnhbjoalemlaaGreatDoorJ12
import Derived.Test.YtgcnhbjoalemlaaGreatDoorFldA
import Derived.Test.YtgcnhbjoalemlaaGreatDoorJ6
import Derived.Test.YtgcnhbjoalemlaaGreatDoorComS
import Derived.BigQuiet
import Derived.IntWalk
import Derived.Test.YtgcnhbjoalemlaaGreatDoorKeyM
import Derived.Laws.BitsAllLaws
import Derived.Laws.StructEq
import Derived.ChangeKeysEq
import Derived.KernelRfl
/- Layer 14: the table of the word's parts (Env), and the contracts of gate.get and gate.put. -/
set_option linter.unusedVariables false
set_option linter.unusedSimpArgs false
set_option maxRecDepth 100000
namespace Go.Proofs.YtgcnhbjoalemlaaGreatDoor
open Go.ChangeShapes Go.WideShapes Go.ChangeAt Go.RowKit Go.Mtl
namespace Ga
open GatM (gI Fit)

theorem gParts : Tryz.prog.globalNamed "mantlet/gate.parts" = some 0 := by kernel_rfl

/-- What the table of parts holds. -/
structure Env (w : World) : Prop where
  c0 : w.cell? ⟨0, 0, none⟩ = some (.int .i64 0)
  c1 : w.cell? ⟨0, 1, none⟩ = some (.int .i64 40)
  c2 : w.cell? ⟨0, 2, none⟩ = some (.int .i64 1099511627775)
  c3 : w.cell? ⟨0, 3, none⟩ = some (.int .i64 40)
  c4 : w.cell? ⟨0, 4, none⟩ = some (.int .i64 12)
  c5 : w.cell? ⟨0, 5, none⟩ = some (.int .i64 4095)
  c6 : w.cell? ⟨0, 6, none⟩ = some (.int .i64 52)
  c7 : w.cell? ⟨0, 7, none⟩ = some (.int .i64 12)
  c8 : w.cell? ⟨0, 8, none⟩ = some (.int .i64 4095)
theorem Env.lt {w : World} (h : Env w) : 0 < w.heap.size := World.block_lt_of_cell? _ _ h.c0
theorem Env.below {w w' : World} (h : Env w) {B : Nat} (hb : Below B w w') (hB : w.heap.size ≤ B) : Env w' := by
  have hlt := h.lt
  have k : ∀ i, w'.cell? ⟨0, i, none⟩ = w.cell? ⟨0, i, none⟩ := fun i => hb.cell (Nat.lt_of_lt_of_le hlt hB)
  exact ⟨(k 0).trans h.c0, (k 1).trans h.c1, (k 2).trans h.c2, (k 3).trans h.c3, (k 4).trans h.c4, (k 5).trans h.c5, (k 6).trans h.c6, (k 7).trans h.c7, (k 8).trans h.c8⟩
theorem Env.alloc {w : World} (h : Env w) (o : Obj) : Env (w.alloc o) := h.below ((Below.refl _ _).alloc (Nat.le_refl _) o) (Nat.le_refl _)
theorem Env.drewN {w : World} (h : Env w) (n : Nat) : Env (w.drewN n) := ⟨h.c0, h.c1, h.c2, h.c3, h.c4, h.c5, h.c6, h.c7, h.c8⟩

theorem fget_c {c k v : Int} (h : Fit c k v) (W : World) :
    Calls Tryz.prog 98 #[.int .u64 (gI c k v), .int .i64 0, .int .i64 40] W fun e w' => e = .returned (.int .u64 c) ∧ ∃ n, w' = W.drewN n := by
  have := Fld.get_yes (gI c k v) 0 40 (GatM.gI_lo h) (GatM.gI_hi h) (by omega) (by omega) (by omega) W
  unfold Fld.getI at this
  rwa [GatM.get_c h] at this
theorem fget_k {c k v : Int} (h : Fit c k v) (W : World) :
    Calls Tryz.prog 98 #[.int .u64 (gI c k v), .int .i64 40, .int .i64 12] W fun e w' => e = .returned (.int .u64 k) ∧ ∃ n, w' = W.drewN n := by
  have := Fld.get_yes (gI c k v) 40 12 (GatM.gI_lo h) (GatM.gI_hi h) (by omega) (by omega) (by omega) W
  unfold Fld.getI at this
  rwa [GatM.get_k h] at this
theorem fget_v {c k v : Int} (h : Fit c k v) (W : World) :
    Calls Tryz.prog 98 #[.int .u64 (gI c k v), .int .i64 52, .int .i64 12] W fun e w' => e = .returned (.int .u64 v) ∧ ∃ n, w' = W.drewN n := by
  have := Fld.get_yes (gI c k v) 52 12 (GatM.gI_lo h) (GatM.gI_hi h) (by omega) (by omega) (by omega) W
  unfold Fld.getI at this
  rwa [GatM.get_v h] at this
theorem fput_c {c k v n : Int} (h : Fit c k v) (h0 : 0 ≤ n) (h1 : n < 1099511627776) (W : World) :
    Calls Tryz.prog 110 #[.int .u64 (gI c k v), .int .i64 0, .int .i64 40, .int .u64 n] W fun e w' => e = .returned (.int .u64 (gI n k v)) ∧ ∃ n, w' = W.drewN n := by
  have := Fld.put_yes (gI c k v) 0 40 n (GatM.gI_lo h) (GatM.gI_hi h) h0 (by omega) (by omega) (by omega) (by omega) W
  unfold Fld.putI at this
  rwa [GatM.put_c h h0 h1] at this
theorem fput_k {c k v n : Int} (h : Fit c k v) (h0 : 0 ≤ n) (h1 : n < 4096) (W : World) :
    Calls Tryz.prog 110 #[.int .u64 (gI c k v), .int .i64 40, .int .i64 12, .int .u64 n] W fun e w' => e = .returned (.int .u64 (gI c n v)) ∧ ∃ n, w' = W.drewN n := by
  have := Fld.put_yes (gI c k v) 40 12 n (GatM.gI_lo h) (GatM.gI_hi h) h0 (by omega) (by omega) (by omega) (by omega) W
  unfold Fld.putI at this
  rwa [GatM.put_k h h0 h1] at this
theorem fput_v {c k v n : Int} (h : Fit c k v) (h0 : 0 ≤ n) (h1 : n < 4096) (W : World) :
    Calls Tryz.prog 110 #[.int .u64 (gI c k v), .int .i64 52, .int .i64 12, .int .u64 n] W fun e w' => e = .returned (.int .u64 (gI c k n)) ∧ ∃ n, w' = W.drewN n := by
  have := Fld.put_yes (gI c k v) 52 12 n (GatM.gI_lo h) (GatM.gI_hi h) h0 (by omega) (by omega) (by omega) (by omega) W
  unfold Fld.putI at this
  rwa [GatM.put_v h h0 h1] at this

set_option maxHeartbeats 1000000 in
theorem get_c {c k v : Int} (h : Fit c k v) (W : World) (he : Env W) :
    Calls Tryz.prog 76 #[.int .u64 (gI c k v), .int .i64 0] W fun e w' => e = .returned (.int .i64 c) ∧ ∃ n, w' = W.drewN n := by
  have H := Lib.hid h
  obtain ⟨b0, b1, b2, b3, b4, b5⟩ := h
  have x0 := he.c0
  have x1 := he.c1
  have hw : wrap64 c = c := IntWalk.wrap64_in _ (by omega)
  clear he b0 b1 b2 b3 b4 b5
  go_enter Tryz.func76, Tryz.ntmps76
  go_wp2_with fail
  refine region_still_tail 9 (by kernel_rfl) (by kernel_rfl) W.drew rfl ?_
  simp only [List.take_succ_cons, List.take_zero, List.drop_succ_cons, List.drop_zero]
  repeat still_step
  refine wpStill_nil ?_
  go_wp2_with (go_at_call 98; refine (fget_c H.out _).mono ?_; rintro e w' ⟨rfl, nq, rfl⟩)
  go_ret
  refine ⟨?_, 1 + nq, rfl⟩
  show Ending.returned (.int .i64 (wrap64 c)) = _
  rw [hw]
set_option maxHeartbeats 1000000 in
theorem get_k {c k v : Int} (h : Fit c k v) (W : World) (he : Env W) :
    Calls Tryz.prog 76 #[.int .u64 (gI c k v), .int .i64 1] W fun e w' => e = .returned (.int .i64 k) ∧ ∃ n, w' = W.drewN n := by
  have H := Lib.hid h
  obtain ⟨b0, b1, b2, b3, b4, b5⟩ := h
  have x0 := he.c3
  have x1 := he.c4
  have hw : wrap64 k = k := IntWalk.wrap64_in _ (by omega)
  clear he b0 b1 b2 b3 b4 b5
  go_enter Tryz.func76, Tryz.ntmps76
  go_wp2_with fail
  refine region_still_tail 9 (by kernel_rfl) (by kernel_rfl) W.drew rfl ?_
  simp only [List.take_succ_cons, List.take_zero, List.drop_succ_cons, List.drop_zero]
  repeat still_step
  refine wpStill_nil ?_
  go_wp2_with (go_at_call 98; refine (fget_k H.out _).mono ?_; rintro e w' ⟨rfl, nq, rfl⟩)
  go_ret
  refine ⟨?_, 1 + nq, rfl⟩
  show Ending.returned (.int .i64 (wrap64 k)) = _
  rw [hw]
set_option maxHeartbeats 1000000 in
theorem get_v {c k v : Int} (h : Fit c k v) (W : World) (he : Env W) :
    Calls Tryz.prog 76 #[.int .u64 (gI c k v), .int .i64 2] W fun e w' => e = .returned (.int .i64 v) ∧ ∃ n, w' = W.drewN n := by
  have H := Lib.hid h
  obtain ⟨b0, b1, b2, b3, b4, b5⟩ := h
  have x0 := he.c6
  have x1 := he.c7
  have hw : wrap64 v = v := IntWalk.wrap64_in _ (by omega)
  clear he b0 b1 b2 b3 b4 b5
  go_enter Tryz.func76, Tryz.ntmps76
  go_wp2_with fail
  refine region_still_tail 9 (by kernel_rfl) (by kernel_rfl) W.drew rfl ?_
  simp only [List.take_succ_cons, List.take_zero, List.drop_succ_cons, List.drop_zero]
  repeat still_step
  refine wpStill_nil ?_
  go_wp2_with (go_at_call 98; refine (fget_v H.out _).mono ?_; rintro e w' ⟨rfl, nq, rfl⟩)
  go_ret
  refine ⟨?_, 1 + nq, rfl⟩
  show Ending.returned (.int .i64 (wrap64 v)) = _
  rw [hw]
set_option maxHeartbeats 1000000 in
theorem put_c {c k v n : Int} (h : Fit c k v) (h0 : 0 ≤ n) (h1 : n < 1099511627776) (W : World) (he : Env W) :
    Calls Tryz.prog 77 #[.int .u64 (gI c k v), .int .i64 0, .int .i64 n] W fun e w' => e = .returned (.int .u64 (gI n k v)) ∧ ∃ n, w' = W.drewN n := by
  have H := Lib.hid h
  have H0 := Lib.hid h0
  have H1 := Lib.hid h1
  have x0 := he.c0
  have x1 := he.c1
  have hw : IntKind.u64.wrap n = n := by rw [IntKind.wrap_u64]; omega
  clear he h
  go_enter Tryz.func77, Tryz.ntmps77
  go_wp2_with fail
  refine region_still_tail 11 (by kernel_rfl) (by kernel_rfl) W.drew rfl ?_
  simp only [List.take_succ_cons, List.take_zero, List.drop_succ_cons, List.drop_zero]
  repeat still_step
  refine wpStill_nil ?_
  go_wp2_with (go_at_call 110; refine (fput_c H.out H0.out H1.out _).mono ?_; rintro e w' ⟨rfl, nq, rfl⟩)
  go_ret
  exact ⟨rfl, 1 + nq, rfl⟩
set_option maxHeartbeats 1000000 in
theorem put_k {c k v n : Int} (h : Fit c k v) (h0 : 0 ≤ n) (h1 : n < 4096) (W : World) (he : Env W) :
    Calls Tryz.prog 77 #[.int .u64 (gI c k v), .int .i64 1, .int .i64 n] W fun e w' => e = .returned (.int .u64 (gI c n v)) ∧ ∃ n, w' = W.drewN n := by
  have H := Lib.hid h
  have H0 := Lib.hid h0
  have H1 := Lib.hid h1
  have x0 := he.c3
  have x1 := he.c4
  have hw : IntKind.u64.wrap n = n := by rw [IntKind.wrap_u64]; omega
  clear he h
  go_enter Tryz.func77, Tryz.ntmps77
  go_wp2_with fail
  refine region_still_tail 11 (by kernel_rfl) (by kernel_rfl) W.drew rfl ?_
  simp only [List.take_succ_cons, List.take_zero, List.drop_succ_cons, List.drop_zero]
  repeat still_step
  refine wpStill_nil ?_
  go_wp2_with (go_at_call 110; refine (fput_k H.out H0.out H1.out _).mono ?_; rintro e w' ⟨rfl, nq, rfl⟩)
  go_ret
  exact ⟨rfl, 1 + nq, rfl⟩
set_option maxHeartbeats 1000000 in
theorem put_v {c k v n : Int} (h : Fit c k v) (h0 : 0 ≤ n) (h1 : n < 4096) (W : World) (he : Env W) :
    Calls Tryz.prog 77 #[.int .u64 (gI c k v), .int .i64 2, .int .i64 n] W fun e w' => e = .returned (.int .u64 (gI c k n)) ∧ ∃ n, w' = W.drewN n := by
  have H := Lib.hid h
  have H0 := Lib.hid h0
  have H1 := Lib.hid h1
  have x0 := he.c6
  have x1 := he.c7
  have hw : IntKind.u64.wrap n = n := by rw [IntKind.wrap_u64]; omega
  clear he h
  go_enter Tryz.func77, Tryz.ntmps77
  go_wp2_with fail
  refine region_still_tail 11 (by kernel_rfl) (by kernel_rfl) W.drew rfl ?_
  simp only [List.take_succ_cons, List.take_zero, List.drop_succ_cons, List.drop_zero]
  repeat still_step
  refine wpStill_nil ?_
  go_wp2_with (go_at_call 110; refine (fput_v H.out H0.out H1.out _).mono ?_; rintro e w' ⟨rfl, nq, rfl⟩)
  go_ret
  exact ⟨rfl, 1 + nq, rfl⟩
end Ga
end Go.Proofs.YtgcnhbjoalemlaaGreatDoor
/- Layer 15: the table of the word's parts (Env), and the contracts of flow.get and flow.put. -/
set_option linter.unusedVariables false
set_option linter.unusedSimpArgs false
set_option maxRecDepth 100000
namespace Go.Proofs.YtgcnhbjoalemlaaGreatDoor
open Go.ChangeShapes Go.WideShapes Go.ChangeAt Go.RowKit Go.Mtl
namespace Fl
open FloM (gI Fit)

theorem gParts : Tryz.prog.globalNamed "mantlet/flow.parts" = some 1 := by kernel_rfl

/-- What the table of parts holds. -/
structure Env (w : World) : Prop where
  c0 : w.cell? ⟨1, 0, none⟩ = some (.int .i64 0)
  c1 : w.cell? ⟨1, 1, none⟩ = some (.int .i64 40)
  c2 : w.cell? ⟨1, 2, none⟩ = some (.int .i64 1099511627775)
  c3 : w.cell? ⟨1, 3, none⟩ = some (.int .i64 40)
  c4 : w.cell? ⟨1, 4, none⟩ = some (.int .i64 20)
  c5 : w.cell? ⟨1, 5, none⟩ = some (.int .i64 1048575)
  c6 : w.cell? ⟨1, 6, none⟩ = some (.int .i64 60)
  c7 : w.cell? ⟨1, 7, none⟩ = some (.int .i64 4)
  c8 : w.cell? ⟨1, 8, none⟩ = some (.int .i64 15)
theorem Env.lt {w : World} (h : Env w) : 1 < w.heap.size := World.block_lt_of_cell? _ _ h.c0
theorem Env.below {w w' : World} (h : Env w) {B : Nat} (hb : Below B w w') (hB : w.heap.size ≤ B) : Env w' := by
  have hlt := h.lt
  have k : ∀ i, w'.cell? ⟨1, i, none⟩ = w.cell? ⟨1, i, none⟩ := fun i => hb.cell (Nat.lt_of_lt_of_le hlt hB)
  exact ⟨(k 0).trans h.c0, (k 1).trans h.c1, (k 2).trans h.c2, (k 3).trans h.c3, (k 4).trans h.c4, (k 5).trans h.c5, (k 6).trans h.c6, (k 7).trans h.c7, (k 8).trans h.c8⟩
theorem Env.alloc {w : World} (h : Env w) (o : Obj) : Env (w.alloc o) := h.below ((Below.refl _ _).alloc (Nat.le_refl _) o) (Nat.le_refl _)
theorem Env.drewN {w : World} (h : Env w) (n : Nat) : Env (w.drewN n) := ⟨h.c0, h.c1, h.c2, h.c3, h.c4, h.c5, h.c6, h.c7, h.c8⟩

theorem fget_c {c k v : Int} (h : Fit c k v) (W : World) :
    Calls Tryz.prog 98 #[.int .u64 (gI c k v), .int .i64 0, .int .i64 40] W fun e w' => e = .returned (.int .u64 c) ∧ ∃ n, w' = W.drewN n := by
  have := Fld.get_yes (gI c k v) 0 40 (FloM.gI_lo h) (FloM.gI_hi h) (by omega) (by omega) (by omega) W
  unfold Fld.getI at this
  rwa [FloM.get_c h] at this
theorem fget_k {c k v : Int} (h : Fit c k v) (W : World) :
    Calls Tryz.prog 98 #[.int .u64 (gI c k v), .int .i64 40, .int .i64 20] W fun e w' => e = .returned (.int .u64 k) ∧ ∃ n, w' = W.drewN n := by
  have := Fld.get_yes (gI c k v) 40 20 (FloM.gI_lo h) (FloM.gI_hi h) (by omega) (by omega) (by omega) W
  unfold Fld.getI at this
  rwa [FloM.get_k h] at this
theorem fget_v {c k v : Int} (h : Fit c k v) (W : World) :
    Calls Tryz.prog 98 #[.int .u64 (gI c k v), .int .i64 60, .int .i64 4] W fun e w' => e = .returned (.int .u64 v) ∧ ∃ n, w' = W.drewN n := by
  have := Fld.get_yes (gI c k v) 60 4 (FloM.gI_lo h) (FloM.gI_hi h) (by omega) (by omega) (by omega) W
  unfold Fld.getI at this
  rwa [FloM.get_v h] at this
theorem fput_c {c k v n : Int} (h : Fit c k v) (h0 : 0 ≤ n) (h1 : n < 1099511627776) (W : World) :
    Calls Tryz.prog 110 #[.int .u64 (gI c k v), .int .i64 0, .int .i64 40, .int .u64 n] W fun e w' => e = .returned (.int .u64 (gI n k v)) ∧ ∃ n, w' = W.drewN n := by
  have := Fld.put_yes (gI c k v) 0 40 n (FloM.gI_lo h) (FloM.gI_hi h) h0 (by omega) (by omega) (by omega) (by omega) W
  unfold Fld.putI at this
  rwa [FloM.put_c h h0 h1] at this
theorem fput_k {c k v n : Int} (h : Fit c k v) (h0 : 0 ≤ n) (h1 : n < 1048576) (W : World) :
    Calls Tryz.prog 110 #[.int .u64 (gI c k v), .int .i64 40, .int .i64 20, .int .u64 n] W fun e w' => e = .returned (.int .u64 (gI c n v)) ∧ ∃ n, w' = W.drewN n := by
  have := Fld.put_yes (gI c k v) 40 20 n (FloM.gI_lo h) (FloM.gI_hi h) h0 (by omega) (by omega) (by omega) (by omega) W
  unfold Fld.putI at this
  rwa [FloM.put_k h h0 h1] at this
theorem fput_v {c k v n : Int} (h : Fit c k v) (h0 : 0 ≤ n) (h1 : n < 18446744073709551616) (W : World) :
    Calls Tryz.prog 110 #[.int .u64 (gI c k v), .int .i64 60, .int .i64 4, .int .u64 n] W fun e w' => e = .returned (.int .u64 (gI c k (n % 16))) ∧ ∃ n, w' = W.drewN n := by
  have := Fld.put_yes (gI c k v) 60 4 n (FloM.gI_lo h) (FloM.gI_hi h) h0 (by omega) (by omega) (by omega) (by omega) W
  unfold Fld.putI at this
  rwa [FloM.put_v h h0] at this

set_option maxHeartbeats 1000000 in
theorem get_c {c k v : Int} (h : Fit c k v) (W : World) (he : Env W) :
    Calls Tryz.prog 67 #[.int .u64 (gI c k v), .int .i64 0] W fun e w' => e = .returned (.int .i64 c) ∧ ∃ n, w' = W.drewN n := by
  have H := Lib.hid h
  obtain ⟨b0, b1, b2, b3, b4, b5⟩ := h
  have x0 := he.c0
  have x1 := he.c1
  have hw : wrap64 c = c := IntWalk.wrap64_in _ (by omega)
  clear he b0 b1 b2 b3 b4 b5
  go_enter Tryz.func67, Tryz.ntmps67
  go_wp2_with fail
  refine region_still_tail 9 (by kernel_rfl) (by kernel_rfl) W.drew rfl ?_
  simp only [List.take_succ_cons, List.take_zero, List.drop_succ_cons, List.drop_zero]
  repeat still_step
  refine wpStill_nil ?_
  go_wp2_with (go_at_call 98; refine (fget_c H.out _).mono ?_; rintro e w' ⟨rfl, nq, rfl⟩)
  go_ret
  refine ⟨?_, 1 + nq, rfl⟩
  show Ending.returned (.int .i64 (wrap64 c)) = _
  rw [hw]
set_option maxHeartbeats 1000000 in
theorem get_k {c k v : Int} (h : Fit c k v) (W : World) (he : Env W) :
    Calls Tryz.prog 67 #[.int .u64 (gI c k v), .int .i64 1] W fun e w' => e = .returned (.int .i64 k) ∧ ∃ n, w' = W.drewN n := by
  have H := Lib.hid h
  obtain ⟨b0, b1, b2, b3, b4, b5⟩ := h
  have x0 := he.c3
  have x1 := he.c4
  have hw : wrap64 k = k := IntWalk.wrap64_in _ (by omega)
  clear he b0 b1 b2 b3 b4 b5
  go_enter Tryz.func67, Tryz.ntmps67
  go_wp2_with fail
  refine region_still_tail 9 (by kernel_rfl) (by kernel_rfl) W.drew rfl ?_
  simp only [List.take_succ_cons, List.take_zero, List.drop_succ_cons, List.drop_zero]
  repeat still_step
  refine wpStill_nil ?_
  go_wp2_with (go_at_call 98; refine (fget_k H.out _).mono ?_; rintro e w' ⟨rfl, nq, rfl⟩)
  go_ret
  refine ⟨?_, 1 + nq, rfl⟩
  show Ending.returned (.int .i64 (wrap64 k)) = _
  rw [hw]
set_option maxHeartbeats 1000000 in
theorem get_v {c k v : Int} (h : Fit c k v) (W : World) (he : Env W) :
    Calls Tryz.prog 67 #[.int .u64 (gI c k v), .int .i64 2] W fun e w' => e = .returned (.int .i64 v) ∧ ∃ n, w' = W.drewN n := by
  have H := Lib.hid h
  obtain ⟨b0, b1, b2, b3, b4, b5⟩ := h
  have x0 := he.c6
  have x1 := he.c7
  have hw : wrap64 v = v := IntWalk.wrap64_in _ (by omega)
  clear he b0 b1 b2 b3 b4 b5
  go_enter Tryz.func67, Tryz.ntmps67
  go_wp2_with fail
  refine region_still_tail 9 (by kernel_rfl) (by kernel_rfl) W.drew rfl ?_
  simp only [List.take_succ_cons, List.take_zero, List.drop_succ_cons, List.drop_zero]
  repeat still_step
  refine wpStill_nil ?_
  go_wp2_with (go_at_call 98; refine (fget_v H.out _).mono ?_; rintro e w' ⟨rfl, nq, rfl⟩)
  go_ret
  refine ⟨?_, 1 + nq, rfl⟩
  show Ending.returned (.int .i64 (wrap64 v)) = _
  rw [hw]
set_option maxHeartbeats 1000000 in
theorem put_c {c k v n : Int} (h : Fit c k v) (h0 : 0 ≤ n) (h1 : n < 1099511627776) (W : World) (he : Env W) :
    Calls Tryz.prog 105 #[.int .u64 (gI c k v), .int .i64 0, .int .i64 n] W fun e w' => e = .returned (.int .u64 (gI n k v)) ∧ ∃ n, w' = W.drewN n := by
  have H := Lib.hid h
  have H0 := Lib.hid h0
  have H1 := Lib.hid h1
  have x0 := he.c0
  have x1 := he.c1
  have hw : IntKind.u64.wrap n = n := by rw [IntKind.wrap_u64]; omega
  clear he h
  go_enter Tryz.func105, Tryz.ntmps105
  go_wp2_with fail
  refine region_still_tail 11 (by kernel_rfl) (by kernel_rfl) W.drew rfl ?_
  simp only [List.take_succ_cons, List.take_zero, List.drop_succ_cons, List.drop_zero]
  repeat still_step
  refine wpStill_nil ?_
  go_wp2_with (go_at_call 110; refine (fput_c H.out H0.out H1.out _).mono ?_; rintro e w' ⟨rfl, nq, rfl⟩)
  go_ret
  exact ⟨rfl, 1 + nq, rfl⟩
set_option maxHeartbeats 1000000 in
theorem put_k {c k v n : Int} (h : Fit c k v) (h0 : 0 ≤ n) (h1 : n < 1048576) (W : World) (he : Env W) :
    Calls Tryz.prog 105 #[.int .u64 (gI c k v), .int .i64 1, .int .i64 n] W fun e w' => e = .returned (.int .u64 (gI c n v)) ∧ ∃ n, w' = W.drewN n := by
  have H := Lib.hid h
  have H0 := Lib.hid h0
  have H1 := Lib.hid h1
  have x0 := he.c3
  have x1 := he.c4
  have hw : IntKind.u64.wrap n = n := by rw [IntKind.wrap_u64]; omega
  clear he h
  go_enter Tryz.func105, Tryz.ntmps105
  go_wp2_with fail
  refine region_still_tail 11 (by kernel_rfl) (by kernel_rfl) W.drew rfl ?_
  simp only [List.take_succ_cons, List.take_zero, List.drop_succ_cons, List.drop_zero]
  repeat still_step
  refine wpStill_nil ?_
  go_wp2_with (go_at_call 110; refine (fput_k H.out H0.out H1.out _).mono ?_; rintro e w' ⟨rfl, nq, rfl⟩)
  go_ret
  exact ⟨rfl, 1 + nq, rfl⟩
set_option maxHeartbeats 1000000 in
theorem put_v {c k v n : Int} (h : Fit c k v) (W : World) (he : Env W) :
    Calls Tryz.prog 105 #[.int .u64 (gI c k v), .int .i64 2, .int .i64 n] W fun e w' => e = .returned (.int .u64 (gI c k (n % 16))) ∧ ∃ n, w' = W.drewN n := by
  have H := Lib.hid h
  have hb : 0 ≤ IntKind.u64.wrap n ∧ IntKind.u64.wrap n < 18446744073709551616 := by rw [IntKind.wrap_u64]; omega
  have hq : IntKind.u64.wrap n % 16 = n % 16 := by rw [IntKind.wrap_u64]; omega
  have HC := Lib.hid (fun W => fput_v (n := IntKind.u64.wrap n) h hb.1 hb.2 W)
  rw [hq] at HC
  have x0 := he.c6
  have x1 := he.c7
  clear he h hb hq
  go_enter Tryz.func105, Tryz.ntmps105
  go_wp2_with fail
  refine region_still_tail 11 (by kernel_rfl) (by kernel_rfl) W.drew rfl ?_
  simp only [List.take_succ_cons, List.take_zero, List.drop_succ_cons, List.drop_zero]
  repeat still_step
  refine wpStill_nil ?_
  go_wp2_with (go_at_call 110; refine (HC.out _).mono ?_; rintro e w' ⟨rfl, nq, rfl⟩)
  go_ret
  exact ⟨rfl, 1 + nq, rfl⟩
end Fl
end Go.Proofs.YtgcnhbjoalemlaaGreatDoor
/- Layer 14: the contracts of gate.increase, Tick, Enter, Leave and Swap. -/
set_option linter.unusedVariables false
set_option linter.unusedSimpArgs false
set_option maxRecDepth 100000
namespace Go.Proofs.YtgcnhbjoalemlaaGreatDoor
open Go.ChangeShapes Go.WideShapes Go.ChangeAt Go.RowKit Go.Mtl
namespace Ga
open GatM (gI Fit)

set_option maxHeartbeats 1000000 in
theorem inc_k_no {c k v : Int} (h : Fit c k v) (hm : k = 4095) (W : World) (he : Env W) :
    Calls Tryz.prog 90 #[.int .u64 (gI c k v), .int .i64 1] W fun e w' => e = .returned (.tuple #[.int .u64 (gI c k v), .bool false]) ∧ ∃ n, w' = W.drewN n := by
  have H := Lib.hid h
  have HE := Lib.hid he
  have x0 := he.c5
  have hd : (k == (4095 : Int)) = true := by rw [hm]; rfl
  clear he h hm
  go_enter Tryz.func90, Tryz.ntmps90
  go_wp2_with (go_at_call 76; refine (get_k H.out _ HE.out).mono ?_; rintro e w' ⟨rfl, nq, rfl⟩)
  go_ret2
  exact ⟨rfl, nq, rfl⟩
set_option maxHeartbeats 1000000 in
theorem inc_k_yes {c k v : Int} (h : Fit c k v) (hm : k ≠ 4095) (W : World) (he : Env W) :
    Calls Tryz.prog 90 #[.int .u64 (gI c k v), .int .i64 1] W fun e w' => e = .returned (.tuple #[.int .u64 (gI c (k + 1) v), .bool true]) ∧ ∃ n, w' = W.drewN n := by
  have H := Lib.hid h
  have HE := Lib.hid he
  have x0 := he.c5
  have hd : (k == (4095 : Int)) = false := by simpa using hm
  obtain ⟨b0, b1, b2, b3, b4, b5⟩ := h
  have hw : wrap64 (k + 1) = k + 1 := IntWalk.wrap64_in _ (by omega)
  have H0 : Hid (0 ≤ k + 1 ∧ k + 1 < 4096) := by show _ ∧ _; omega
  clear he hm b0 b1 b2 b3 b4 b5
  go_enter Tryz.func90, Tryz.ntmps90
  go_wp2_with (go_at_call 76; refine (get_k H.out _ HE.out).mono ?_; rintro e w' ⟨rfl, nq, rfl⟩)
  go_at_call 77
  refine (put_k H.out H0.out.1 H0.out.2 _ (HE.out.drewN nq)).mono ?_
  rintro e w' ⟨rfl, nr, rfl⟩
  go_wp2_with fail
  go_ret2
  exact ⟨rfl, nq + nr, rfl⟩
set_option maxHeartbeats 1000000 in
theorem inc_v_no {c k v : Int} (h : Fit c k v) (hm : v = 4095) (W : World) (he : Env W) :
    Calls Tryz.prog 90 #[.int .u64 (gI c k v), .int .i64 2] W fun e w' => e = .returned (.tuple #[.int .u64 (gI c k v), .bool false]) ∧ ∃ n, w' = W.drewN n := by
  have H := Lib.hid h
  have HE := Lib.hid he
  have x0 := he.c8
  have hd : (v == (4095 : Int)) = true := by rw [hm]; rfl
  clear he h hm
  go_enter Tryz.func90, Tryz.ntmps90
  go_wp2_with (go_at_call 76; refine (get_v H.out _ HE.out).mono ?_; rintro e w' ⟨rfl, nq, rfl⟩)
  go_ret2
  exact ⟨rfl, nq, rfl⟩
set_option maxHeartbeats 1000000 in
theorem inc_v_yes {c k v : Int} (h : Fit c k v) (hm : v ≠ 4095) (W : World) (he : Env W) :
    Calls Tryz.prog 90 #[.int .u64 (gI c k v), .int .i64 2] W fun e w' => e = .returned (.tuple #[.int .u64 (gI c k (v + 1)), .bool true]) ∧ ∃ n, w' = W.drewN n := by
  have H := Lib.hid h
  have HE := Lib.hid he
  have x0 := he.c8
  have hd : (v == (4095 : Int)) = false := by simpa using hm
  obtain ⟨b0, b1, b2, b3, b4, b5⟩ := h
  have hw : wrap64 (v + 1) = v + 1 := IntWalk.wrap64_in _ (by omega)
  have H0 : Hid (0 ≤ v + 1 ∧ v + 1 < 4096) := by show _ ∧ _; omega
  clear he hm b0 b1 b2 b3 b4 b5
  go_enter Tryz.func90, Tryz.ntmps90
  go_wp2_with (go_at_call 76; refine (get_v H.out _ HE.out).mono ?_; rintro e w' ⟨rfl, nq, rfl⟩)
  go_at_call 77
  refine (put_v H.out H0.out.1 H0.out.2 _ (HE.out.drewN nq)).mono ?_
  rintro e w' ⟨rfl, nr, rfl⟩
  go_wp2_with fail
  go_ret2
  exact ⟨rfl, nq + nr, rfl⟩

set_option maxHeartbeats 1000000 in
theorem swap_no {c k v : Int} (h : Fit c k v) (hm : v = 4095) (W : World) (he : Env W) :
    Calls Tryz.prog 52 #[.int .u64 (gI c k v)] W fun e w' => e = .returned (.tuple #[.int .u64 (gI c k v), .bool false]) ∧ ∃ n, w' = W.drewN n := by
  have H := Lib.hid (inc_v_no h hm W he)
  clear h hm he
  go_enter Tryz.func52, Tryz.ntmps52
  go_wp2_with (go_at_call 90; refine H.out.mono ?_; rintro e w' ⟨rfl, nq, rfl⟩)
  go_ret2
  exact ⟨rfl, nq, rfl⟩
set_option maxHeartbeats 1000000 in
theorem swap_yes {c k v : Int} (h : Fit c k v) (hm : v ≠ 4095) (W : World) (he : Env W) :
    Calls Tryz.prog 52 #[.int .u64 (gI c k v)] W fun e w' => e = .returned (.tuple #[.int .u64 (gI c k (v + 1)), .bool true]) ∧ ∃ n, w' = W.drewN n := by
  have H := Lib.hid (inc_v_yes h hm W he)
  clear h hm he
  go_enter Tryz.func52, Tryz.ntmps52
  go_wp2_with (go_at_call 90; refine H.out.mono ?_; rintro e w' ⟨rfl, nq, rfl⟩)
  go_ret2
  exact ⟨rfl, nq, rfl⟩

set_option maxHeartbeats 1000000 in
theorem leave_no {c k v : Int} (h : Fit c k v) (hm : k = 0) (W : World) (he : Env W) :
    Calls Tryz.prog 56 #[.int .u64 (gI c k v)] W fun e w' => e = .returned (.tuple #[.int .u64 (gI c k v), .bool false]) ∧ ∃ n, w' = W.drewN n := by
  have H := Lib.hid h
  have HE := Lib.hid he
  have hd : (k == (0 : Int)) = true := by rw [hm]; rfl
  clear he h hm
  go_enter Tryz.func56, Tryz.ntmps56
  go_wp2_with (go_at_call 76; refine (get_k H.out _ HE.out).mono ?_; rintro e w' ⟨rfl, nq, rfl⟩)
  go_ret2
  exact ⟨rfl, nq, rfl⟩
set_option maxHeartbeats 1000000 in
theorem leave_yes {c k v : Int} (h : Fit c k v) (hm : k ≠ 0) (W : World) (he : Env W) :
    Calls Tryz.prog 56 #[.int .u64 (gI c k v)] W fun e w' => e = .returned (.tuple #[.int .u64 (gI c (k - 1) v), .bool true]) ∧ ∃ n, w' = W.drewN n := by
  have H := Lib.hid h
  have HE := Lib.hid he
  have hd : (k == (0 : Int)) = false := by simpa using hm
  obtain ⟨b0, b1, b2, b3, b4, b5⟩ := h
  have hw : wrap64 (k - 1) = k - 1 := IntWalk.wrap64_in _ (by omega)
  have H0 : Hid (0 ≤ k - 1 ∧ k - 1 < 4096) := by show _ ∧ _; omega
  clear he hm b0 b1 b2 b3 b4 b5
  go_enter Tryz.func56, Tryz.ntmps56
  go_wp2_with (go_at_call 76; refine (get_k H.out _ HE.out).mono ?_; rintro e w' ⟨rfl, nq, rfl⟩)
  go_at_call 77
  refine (put_k H.out H0.out.1 H0.out.2 _ (HE.out.drewN nq)).mono ?_
  rintro e w' ⟨rfl, nr, rfl⟩
  go_wp2_with fail
  go_ret2
  exact ⟨rfl, nq + nr, rfl⟩

set_option maxHeartbeats 1000000 in
theorem enter_full {c k v l : Int} (h : Fit c k v) (hm : l ≤ k) (W : World) (he : Env W) :
    Calls Tryz.prog 75 #[.int .u64 (gI c k v), .int .i64 l] W fun e w' => e = .returned (.tuple #[.int .u64 (gI c k v), .bool false]) ∧ ∃ n, w' = W.drewN n := by
  have H := Lib.hid h
  have HE := Lib.hid he
  have hd : decide (k ≥ l) = true := by simpa using hm
  clear he h
  go_enter Tryz.func75, Tryz.ntmps75
  go_wp2_with (go_at_call 76; refine (get_k H.out _ HE.out).mono ?_; rintro e w' ⟨rfl, nq, rfl⟩)
  go_ret2
  exact ⟨rfl, nq, rfl⟩
set_option maxHeartbeats 1000000 in
theorem enter_top {c k v l : Int} (h : Fit c k v) (hm : ¬ l ≤ k) (hk : k = 4095) (W : World) (he : Env W) :
    Calls Tryz.prog 75 #[.int .u64 (gI c k v), .int .i64 l] W fun e w' => e = .returned (.tuple #[.int .u64 (gI c k v), .bool false]) ∧ ∃ n, w' = W.drewN n := by
  have H := Lib.hid h
  have HE := Lib.hid he
  have HK := Lib.hid hk
  clear he h hk
  go_enter Tryz.func75, Tryz.ntmps75
  go_wp2_with (go_at_call 76; refine (get_k H.out _ HE.out).mono ?_; rintro e w' ⟨rfl, nq, rfl⟩)
  go_at_call 90
  refine (inc_k_no H.out HK.out _ (HE.out.drewN nq)).mono ?_
  rintro e w' ⟨rfl, nr, rfl⟩
  go_wp2_with fail
  go_ret2
  exact ⟨rfl, nq + nr, rfl⟩
set_option maxHeartbeats 1000000 in
theorem enter_yes {c k v l : Int} (h : Fit c k v) (hm : ¬ l ≤ k) (hk : k ≠ 4095) (W : World) (he : Env W) :
    Calls Tryz.prog 75 #[.int .u64 (gI c k v), .int .i64 l] W fun e w' => e = .returned (.tuple #[.int .u64 (gI c (k + 1) v), .bool true]) ∧ ∃ n, w' = W.drewN n := by
  have H := Lib.hid h
  have HE := Lib.hid he
  have HK := Lib.hid hk
  clear he h hk
  go_enter Tryz.func75, Tryz.ntmps75
  go_wp2_with (go_at_call 76; refine (get_k H.out _ HE.out).mono ?_; rintro e w' ⟨rfl, nq, rfl⟩)
  go_at_call 90
  refine (inc_k_yes H.out HK.out _ (HE.out.drewN nq)).mono ?_
  rintro e w' ⟨rfl, nr, rfl⟩
  go_wp2_with fail
  go_ret2
  exact ⟨rfl, nq + nr, rfl⟩

/-- The clock behind n ticks. -/
def later (c n : Int) : Int := if n ≤ 0 then c else if 1099511627775 < c + n then 1099511627775 else c + n
theorem later_fit {c k v n : Int} (h : Fit c k v) : 0 ≤ later c n ∧ later c n < 1099511627776 ∧ c ≤ later c n := by
  obtain ⟨_, _, _, _, _, _⟩ := h; unfold later
  split
  · omega
  · split <;> omega
theorem put_cx {c k v x : Int} (m : Int) (h : Fit c k v) (hx : x = m) (h0 : 0 ≤ m) (h1 : m < 1099511627776) (W : World) (he : Env W) :
    Calls Tryz.prog 77 #[.int .u64 (gI c k v), .int .i64 0, .int .i64 x] W fun e w' => e = .returned (.int .u64 (gI m k v)) ∧ ∃ n, w' = W.drewN n := by
  subst hx; exact put_c h h0 h1 W he
set_option maxHeartbeats 1000000 in
theorem tick_any {c k v n : Int} (h : Fit c k v) (hn0 : -9223372036854775808 ≤ n) (hn1 : n ≤ 9223372036854775807) (W : World) (he : Env W) :
    Calls Tryz.prog 41 #[.int .u64 (gI c k v), .int .i64 n] W fun e w' => e = .returned (.int .u64 (gI (later c n) k v)) ∧ ∃ n, w' = W.drewN n := by
  have H := Lib.hid h
  have HE := Lib.hid he
  have x2 := he.c2
  have HL := Lib.hid (later_fit (n := n) h)
  obtain ⟨b0, b1, b2, b3, b4, b5⟩ := h
  have hw : wrap64 (1099511627775 - c) = 1099511627775 - c := IntWalk.wrap64_in _ (by omega)
  clear he
  go_enter Tryz.func41, Tryz.ntmps41
  go_wp2_with (go_at_call 76; refine (get_c H.out _ HE.out).mono ?_; rintro e w' ⟨rfl, nq, rfl⟩)
  all_goals go_at_call 77
  all_goals refine (put_cx (later c n) H.out ?_ HL.out.1 HL.out.2.1 _ (HE.out.drewN nq)).mono ?_
  all_goals first | (show _ = later c n; unfold later; split <;> (try split) <;> omega) | skip
  all_goals rintro e w' ⟨rfl, nr, rfl⟩
  all_goals go_wp2_with fail
  all_goals go_ret
  all_goals exact ⟨rfl, nq + nr, rfl⟩
end Ga
end Go.Proofs.YtgcnhbjoalemlaaGreatDoor
/- Layer 15: the contracts of flow.Unpack, Pack, Next, Over, Dead. -/
set_option linter.unusedVariables false
set_option linter.unusedSimpArgs false
set_option maxRecDepth 100000
namespace Go.Proofs.YtgcnhbjoalemlaaGreatDoor
open Go.ChangeShapes Go.WideShapes Go.ChangeAt Go.RowKit Go.Mtl
namespace Fl
open FloM (gI Fit)
/-- A flow's three cells. -/
abbrev gtc (v k c : Int) : Array Value := #[.int .i64 v, .int .i64 k, .int .i64 c]
section
variable {w w' : World} {g : Nat} {v k c : Int} {t : TypeId}
theorem gt_cells (H : Blk w g (gtc v k c) t) : w.cell? ⟨g, 0, none⟩ = some (.int .i64 v) ∧ w.cell? ⟨g, 1, none⟩ = some (.int .i64 k) ∧ w.cell? ⟨g, 2, none⟩ = some (.int .i64 c) := by
  refine ⟨?_, ?_, ?_⟩ <;> exact H.cell _ _ rfl
theorem gt_frozen (H : Blk w g (gtc v k c) t) : w.frozen? ⟨g, 0, none⟩ = false ∧ w.frozen? ⟨g, 1, none⟩ = false ∧ w.frozen? ⟨g, 2, none⟩ = false := by
  refine ⟨?_, ?_, ?_⟩ <;> exact H.frozen _
abbrev storeG (w : World) (g : Nat) (v k c : Int) : World := ((w.setCell ⟨g, 0, none⟩ (.int .i64 v)).setCell ⟨g, 1, none⟩ (.int .i64 k)).setCell ⟨g, 2, none⟩ (.int .i64 c)
theorem gt_store (H : Blk w g (gtc v k c) t) (v' k' c' : Int) : Blk (storeG w g v' k' c') g (gtc v' k' c') t := by
  have h0 := H.set' 0 (.int .i64 v') (cs' := gtc v' k c) rfl
  have h1 := h0.set' 1 (.int .i64 k') (cs' := gtc v' k' c) rfl
  exact h1.set' 2 (.int .i64 c') rfl
theorem below_storeG {B : Nat} {w0 : World} (hb : Below B w0 w) (hg : B ≤ g) (a b d : Int) : Below B w0 (storeG w g a b d) :=
  ((hb.setCell (p := ⟨g, 0, none⟩) hg _).setCell (p := ⟨g, 1, none⟩) hg _).setCell (p := ⟨g, 2, none⟩) hg _
end

set_option maxHeartbeats 1000000 in
theorem unpack_any {c k v : Int} (h : Fit c k v) (W : World) (he : Env W) :
    Calls Tryz.prog 34 #[.int .u64 (gI c k v)] W fun e w' => e = .returned (.agg (gtc v k c)) ∧ Below W.heap.size W w' := by
  have H := Lib.hid h
  have HE := Lib.hid (he.alloc (.cells (gtc 0 0 0) 50))
  have HX := Lib.hid (Blk.box W (gtc 0 0 0) 50)
  have HB := Lib.hid ((Below.refl _ W).alloc (Nat.le_refl _) (.cells (gtc 0 0 0) 50))
  clear he h
  go_enter Tryz.func34, Tryz.ntmps34
  go_wp2_with fail
  go_at_call 67
  refine (get_v H.out _ HE.out).mono ?_
  rintro e w' ⟨rfl, n1, rfl⟩
  go_wp2_with fail
  go_at_call 67
  refine (get_k H.out _ (HE.out.drewN n1)).mono ?_
  rintro e w' ⟨rfl, n2, rfl⟩
  go_wp2_with fail
  go_at_call 67
  refine (get_c H.out _ (HE.out.drewN (n1 + n2))).mono ?_
  rintro e w' ⟨rfl, n3, rfl⟩
  have f0 := (HX.out.drewN (n1 + n2 + n3)).frozen 0
  have f1 := (HX.out.drewN (n1 + n2 + n3)).frozen 1
  have f2 := (HX.out.drewN (n1 + n2 + n3)).frozen 2
  obtain ⟨y0, y1, y2⟩ := gt_cells (HX.out.drewN (n1 + n2 + n3))
  go_wp2_with fail
  have HR := gt_store (HX.out.drewN (n1 + n2 + n3)) v k c
  obtain ⟨r0, r1, r2⟩ := gt_cells HR
  exact bodyPost_ret (v := .agg (gtc v k c)) (by simp [results, Tryz.results34, go_sem, r0, r1, r2]) rfl ⟨rfl, below_storeG (HB.out.drews _) (by simp) _ _ _⟩

/-- Ahead of round j of Pack: the word so far, and what fits. -/
def St (c k v : Int) (j : Nat) (x : Int) : Prop := j = 0 ∧ x = gI 0 0 0 ∨ j = 1 ∧ (0 ≤ c ∧ c < 1099511627776) ∧ x = gI c 0 0 ∨ j = 2 ∧ (0 ≤ c ∧ c < 1099511627776) ∧ (0 ≤ k ∧ k < 1048576) ∧ x = gI c k 0 ∨ j = 3 ∧ (0 ≤ c ∧ c < 1099511627776) ∧ (0 ≤ k ∧ k < 1048576) ∧ (0 ≤ v ∧ v < 16) ∧ x = gI c k v
/-- What Pack returns. -/
def PV (c k v : Int) (V : Value) : Prop := (Fit c k v → V = .tuple #[.int .u64 (gI c k v), .int .i64 0]) ∧ (¬ Fit c k v → V = .tuple #[.int .u64 0, .int .i64 1])
end Fl
end Go.Proofs.YtgcnhbjoalemlaaGreatDoor
/- Layer 14: the contracts of gate.Pack and gate.Unpack. -/
set_option linter.unusedVariables false
set_option linter.unusedSimpArgs false
set_option maxRecDepth 100000
namespace Go.Proofs.YtgcnhbjoalemlaaGreatDoor
open Go.ChangeShapes Go.WideShapes Go.ChangeAt Go.RowKit Go.Mtl
namespace Ga
open GatM (gI Fit)
/-- A gate's three cells. -/
abbrev gtc (v k c : Int) : Array Value := #[.int .i64 v, .int .i64 k, .int .i64 c]
section
variable {w w' : World} {g : Nat} {v k c : Int} {t : TypeId}
theorem gt_cells (H : Blk w g (gtc v k c) t) : w.cell? ⟨g, 0, none⟩ = some (.int .i64 v) ∧ w.cell? ⟨g, 1, none⟩ = some (.int .i64 k) ∧ w.cell? ⟨g, 2, none⟩ = some (.int .i64 c) := by
  refine ⟨?_, ?_, ?_⟩ <;> exact H.cell _ _ rfl
theorem gt_frozen (H : Blk w g (gtc v k c) t) : w.frozen? ⟨g, 0, none⟩ = false ∧ w.frozen? ⟨g, 1, none⟩ = false ∧ w.frozen? ⟨g, 2, none⟩ = false := by
  refine ⟨?_, ?_, ?_⟩ <;> exact H.frozen _
abbrev storeG (w : World) (g : Nat) (v k c : Int) : World := ((w.setCell ⟨g, 0, none⟩ (.int .i64 v)).setCell ⟨g, 1, none⟩ (.int .i64 k)).setCell ⟨g, 2, none⟩ (.int .i64 c)
theorem gt_store (H : Blk w g (gtc v k c) t) (v' k' c' : Int) : Blk (storeG w g v' k' c') g (gtc v' k' c') t := by
  have h0 := H.set' 0 (.int .i64 v') (cs' := gtc v' k c) rfl
  have h1 := h0.set' 1 (.int .i64 k') (cs' := gtc v' k' c) rfl
  exact h1.set' 2 (.int .i64 c') rfl
theorem below_storeG {B : Nat} {w0 : World} (hb : Below B w0 w) (hg : B ≤ g) (a b d : Int) : Below B w0 (storeG w g a b d) :=
  ((hb.setCell (p := ⟨g, 0, none⟩) hg _).setCell (p := ⟨g, 1, none⟩) hg _).setCell (p := ⟨g, 2, none⟩) hg _
end

set_option maxHeartbeats 1000000 in
theorem unpack_any {c k v : Int} (h : Fit c k v) (W : World) (he : Env W) :
    Calls Tryz.prog 47 #[.int .u64 (gI c k v)] W fun e w' => e = .returned (.agg (gtc v k c)) ∧ Below W.heap.size W w' := by
  have H := Lib.hid h
  have HE := Lib.hid (he.alloc (.cells (gtc 0 0 0) 77))
  have HX := Lib.hid (Blk.box W (gtc 0 0 0) 77)
  have HB := Lib.hid ((Below.refl _ W).alloc (Nat.le_refl _) (.cells (gtc 0 0 0) 77))
  clear he h
  go_enter Tryz.func47, Tryz.ntmps47
  go_wp2_with fail
  go_at_call 76
  refine (get_v H.out _ HE.out).mono ?_
  rintro e w' ⟨rfl, n1, rfl⟩
  go_wp2_with fail
  go_at_call 76
  refine (get_k H.out _ (HE.out.drewN n1)).mono ?_
  rintro e w' ⟨rfl, n2, rfl⟩
  go_wp2_with fail
  go_at_call 76
  refine (get_c H.out _ (HE.out.drewN (n1 + n2))).mono ?_
  rintro e w' ⟨rfl, n3, rfl⟩
  have f0 := (HX.out.drewN (n1 + n2 + n3)).frozen 0
  have f1 := (HX.out.drewN (n1 + n2 + n3)).frozen 1
  have f2 := (HX.out.drewN (n1 + n2 + n3)).frozen 2
  obtain ⟨y0, y1, y2⟩ := gt_cells (HX.out.drewN (n1 + n2 + n3))
  go_wp2_with fail
  have HR := gt_store (HX.out.drewN (n1 + n2 + n3)) v k c
  obtain ⟨r0, r1, r2⟩ := gt_cells HR
  exact bodyPost_ret (v := .agg (gtc v k c)) (by simp [results, Tryz.results47, go_sem, r0, r1, r2]) rfl ⟨rfl, below_storeG (HB.out.drews _) (by simp) _ _ _⟩

/-- Ahead of round j of Pack: the word so far, and what fits. -/
def St (c k v : Int) (j : Nat) (x : Int) : Prop := j = 0 ∧ x = gI 0 0 0 ∨ j = 1 ∧ (0 ≤ c ∧ c < 1099511627776) ∧ x = gI c 0 0 ∨ j = 2 ∧ (0 ≤ c ∧ c < 1099511627776) ∧ (0 ≤ k ∧ k < 4096) ∧ x = gI c k 0 ∨ j = 3 ∧ (0 ≤ c ∧ c < 1099511627776) ∧ (0 ≤ k ∧ k < 4096) ∧ (0 ≤ v ∧ v < 4096) ∧ x = gI c k v
/-- What Pack returns. -/
def PV (c k v : Int) (V : Value) : Prop := (Fit c k v → V = .tuple #[.int .u64 (gI c k v), .int .i64 0]) ∧ (¬ Fit c k v → V = .tuple #[.int .u64 0, .int .i64 1])
end Ga
end Go.Proofs.YtgcnhbjoalemlaaGreatDoor
/- Layer 14: the contracts of the reference's functions. -/
set_option linter.unusedVariables false
set_option linter.unusedSimpArgs false
set_option maxRecDepth 100000
namespace Go.Proofs.YtgcnhbjoalemlaaGreatDoor
open Go.ChangeShapes Go.WideShapes Go.ChangeAt Go.RowKit Go.Mtl
namespace Ga
open GatM (gI Fit)

theorem ref_word (c k v : Int) (h : Fit c k v) : IntKind.u64.wrap (IntKind.u64.wrap (IntKind.u64.wrap (IntKind.u64.wrap (IntKind.u64.wrap v * 4096) + IntKind.u64.wrap k) * 1099511627776) + IntKind.u64.wrap c) = gI c k v := by
  obtain ⟨_, _, _, _, _, _⟩ := h
  simp only [IntKind.wrap_u64]
  unfold gI
  omega
set_option maxHeartbeats 4000000 in
theorem refPack_any (c k v : Int) (V : Value) (hV : PV c k v V) (W : World) :
    Calls Tryz.prog 89 #[.agg (gtc v k c)] W fun e w' => e = .returned V ∧ Below W.heap.size W w' := by
  have HV := Lib.hid hV
  have HX := Lib.hid (Blk.box W (gtc v k c) 77)
  have HB := Lib.hid ((Below.refl _ W).alloc (Nat.le_refl _) (.cells (gtc v k c) 77))
  obtain ⟨x0, x1, x2⟩ := gt_cells HX.out
  clear hV
  by_cases h0 : c < 0
  · have d0 : decide (c < 0) = true := by simpa using h0
    have FN : Hid (V = .tuple #[.int .u64 0, .int .i64 1]) := HV.out.2 (fun h => by have := h.c0; omega)
    clear h0
    go_enter Tryz.func89, Tryz.ntmps89
    go_wp2_with fail
    go_ret2
    exact ⟨by rw [FN.out]; rfl, HB.out⟩
  have d0 : decide (c < 0) = false := by simpa using h0
  by_cases h1 : c ≥ 1099511627776
  · have d1 : decide (c ≥ 1099511627776) = true := by simpa using h1
    have FN : Hid (V = .tuple #[.int .u64 0, .int .i64 1]) := HV.out.2 (fun h => by have := h.c1; omega)
    clear h1
    go_enter Tryz.func89, Tryz.ntmps89
    go_wp2_with fail
    go_ret2
    exact ⟨by rw [FN.out]; rfl, HB.out⟩
  have d1 : decide (c ≥ 1099511627776) = false := by simpa using h1
  by_cases h2 : k < 0
  · have d2 : decide (k < 0) = true := by simpa using h2
    have FN : Hid (V = .tuple #[.int .u64 0, .int .i64 1]) := HV.out.2 (fun h => by have := h.k0; omega)
    clear h2
    go_enter Tryz.func89, Tryz.ntmps89
    go_wp2_with fail
    go_ret2
    exact ⟨by rw [FN.out]; rfl, HB.out⟩
  have d2 : decide (k < 0) = false := by simpa using h2
  by_cases h3 : k > 4095
  · have d3 : decide (k > 4095) = true := by simpa using h3
    have FN : Hid (V = .tuple #[.int .u64 0, .int .i64 1]) := HV.out.2 (fun h => by have := h.k1; omega)
    clear h3
    go_enter Tryz.func89, Tryz.ntmps89
    go_wp2_with fail
    go_ret2
    exact ⟨by rw [FN.out]; rfl, HB.out⟩
  have d3 : decide (k > 4095) = false := by simpa using h3
  by_cases h4 : v < 0
  · have d4 : decide (v < 0) = true := by simpa using h4
    have FN : Hid (V = .tuple #[.int .u64 0, .int .i64 1]) := HV.out.2 (fun h => by have := h.v0; omega)
    clear h4
    go_enter Tryz.func89, Tryz.ntmps89
    go_wp2_with fail
    go_ret2
    exact ⟨by rw [FN.out]; rfl, HB.out⟩
  have d4 : decide (v < 0) = false := by simpa using h4
  by_cases h5 : v > 4095
  · have d5 : decide (v > 4095) = true := by simpa using h5
    have FN : Hid (V = .tuple #[.int .u64 0, .int .i64 1]) := HV.out.2 (fun h => by have := h.v1; omega)
    clear h5
    go_enter Tryz.func89, Tryz.ntmps89
    go_wp2_with fail
    go_ret2
    exact ⟨by rw [FN.out]; rfl, HB.out⟩
  have d5 : decide (v > 4095) = false := by simpa using h5
  have hf : Fit c k v := ⟨by omega, by omega, by omega, by omega, by omega, by omega⟩
  have FN : Hid (V = .tuple #[.int .u64 (gI c k v), .int .i64 0]) := HV.out.1 hf
  have HW := Lib.hid (ref_word c k v hf)
  clear h0 h1 h2 h3 h4 h5 hf
  go_enter Tryz.func89, Tryz.ntmps89
  go_wp2_with fail
  go_ret2
  exact ⟨by rw [FN.out, ← HW.out]; rfl, HB.out⟩

theorem quo_v {c k v : Int} (h : Fit c k v) : gI c k v / 4503599627370496 = v := by obtain ⟨_, _, _, _, _, _⟩ := h; unfold gI; omega
theorem quo_k {c k v : Int} (h : Fit c k v) : gI c k v / 1099511627776 % 4096 = k := by obtain ⟨_, _, _, _, _, _⟩ := h; unfold gI; omega
theorem quo_c {c k v : Int} (h : Fit c k v) : gI c k v % 1099511627776 = c := by obtain ⟨_, _, _, _, _, _⟩ := h; unfold gI; omega
set_option maxHeartbeats 1000000 in
theorem refUnpack_any {c k v : Int} (h : Fit c k v) (W : World) :
    Calls Tryz.prog 32 #[.int .u64 (gI c k v)] W fun e w' => e = .returned (.agg (gtc v k c)) ∧ Below W.heap.size W w' := by
  have HX := Lib.hid (Blk.box W (gtc 0 0 0) 77)
  have HB := Lib.hid ((Below.refl _ W).alloc (Nat.le_refl _) (.cells (gtc 0 0 0) 77))
  have f0 := HX.out.frozen 0
  have f1 := HX.out.frozen 1
  have f2 := HX.out.frozen 2
  obtain ⟨y0, y1, y2⟩ := gt_cells HX.out
  have q0 := quo_c h
  have q1 := quo_k h
  have q2 := quo_v h
  have b0 := GatM.gI_lo h
  have b1 := GatM.gI_hi h
  obtain ⟨z0, z1, z2, z3, z4, z5⟩ := h
  go_enter Tryz.func32, Tryz.ntmps32
  go_wp2_with fail
  obtain ⟨r0, r1, r2⟩ := gt_cells (Blk.box W (gtc v k c) 77)
  exact bodyPost_ret (v := .agg (gtc v k c)) (by simp [results, Tryz.results32, go_sem, r0, r1, r2]) rfl ⟨rfl, (Below.refl _ W).alloc (Nat.le_refl _) _⟩

set_option maxHeartbeats 1000000 in
theorem with_any {c k v : Int} (h : Fit c k v) (W : World) :
    Calls Tryz.prog 51 #[.agg (gtc v k c)] W fun e w' => e = .returned (.int .u64 (gI c k v)) ∧ Below W.heap.size W w' := by
  have HX := Lib.hid (Blk.box W (gtc v k c) 77)
  have HB := Lib.hid ((Below.refl _ W).alloc (Nat.le_refl _) (.cells (gtc v k c) 77))
  obtain ⟨y0, y1, y2⟩ := gt_cells HX.out
  have HP := Lib.hid (refPack_any c k v _ ⟨fun _ => rfl, fun h' => absurd h h'⟩)
  clear h
  go_enter Tryz.func51, Tryz.ntmps51
  go_wp2_with fail
  go_at_call 89
  refine (HP.out _).mono ?_
  rintro e w' ⟨rfl, hb⟩
  go_wp2_with fail
  go_ret
  exact ⟨rfl, HB.out.trans (hb.mono (by simp))⟩

set_option maxHeartbeats 1000000 in
theorem refSwap_no {c k v : Int} (h : Fit c k v) (hm : v = 4095) (W : World) :
    Calls Tryz.prog 53 #[.int .u64 (gI c k v)] W fun e w' => e = .returned (.tuple #[.int .u64 (gI c k v), .bool false]) ∧ Below W.heap.size W w' := by
  have H := Lib.hid h
  have hd : (v == (4095 : Int)) = true := by rw [hm]; rfl
  clear hm h
  go_enter Tryz.func53, Tryz.ntmps53
  go_wp2_with fail
  go_at_call 32
  refine (refUnpack_any H.out _).mono ?_
  rintro e w1 ⟨rfl, hb⟩
  have HB := Lib.hid hb
  clear hb
  go_wp2_with fail
  go_ret2
  exact ⟨rfl, HB.out.alloc HB.out.size _⟩
set_option maxHeartbeats 1000000 in
theorem refSwap_yes {c k v : Int} (h : Fit c k v) (hm : v ≠ 4095) (W : World) :
    Calls Tryz.prog 53 #[.int .u64 (gI c k v)] W fun e w' => e = .returned (.tuple #[.int .u64 (gI c k (v + 1)), .bool true]) ∧ Below W.heap.size W w' := by
  have H := Lib.hid h
  have hd : (v == (4095 : Int)) = false := by simpa using hm
  obtain ⟨b0, b1, b2, b3, b4, b5⟩ := h
  have HN : Hid (Fit c k (v + 1)) := ⟨by omega, by omega, by omega, by omega, by omega, by omega⟩
  have HW := Lib.hid (with_any HN.out)
  have hw := IntWalk.wrap64_in (v + 1) (by omega)
  clear hm b0 b1 b2 b3 b4 b5
  go_enter Tryz.func53, Tryz.ntmps53
  go_wp2_with fail
  go_at_call 32
  refine (refUnpack_any H.out _).mono ?_
  rintro e w1 ⟨rfl, hb⟩
  have HB := Lib.hid hb
  clear hb
  go_wp2_with fail
  go_at_call 51
  refine (HW.out _).mono ?_
  rintro e w2 ⟨rfl, hb⟩
  have HB2 := Lib.hid (((Below.refl _ w1).alloc (Nat.le_refl _) _).trans (hb.mono (by simp)))
  clear hb
  go_wp2_with fail
  go_ret2
  exact ⟨rfl, HB.out.trans (HB2.out.mono HB.out.size)⟩
set_option maxHeartbeats 1000000 in
theorem refLeave_no {c k v : Int} (h : Fit c k v) (hm : k = 0) (W : World) :
    Calls Tryz.prog 58 #[.int .u64 (gI c k v)] W fun e w' => e = .returned (.tuple #[.int .u64 (gI c k v), .bool false]) ∧ Below W.heap.size W w' := by
  have H := Lib.hid h
  have hd : (k == (0 : Int)) = true := by rw [hm]; rfl
  clear hm h
  go_enter Tryz.func58, Tryz.ntmps58
  go_wp2_with fail
  go_at_call 32
  refine (refUnpack_any H.out _).mono ?_
  rintro e w1 ⟨rfl, hb⟩
  have HB := Lib.hid hb
  clear hb
  go_wp2_with fail
  go_ret2
  exact ⟨rfl, HB.out.alloc HB.out.size _⟩
set_option maxHeartbeats 1000000 in
theorem refLeave_yes {c k v : Int} (h : Fit c k v) (hm : k ≠ 0) (W : World) :
    Calls Tryz.prog 58 #[.int .u64 (gI c k v)] W fun e w' => e = .returned (.tuple #[.int .u64 (gI c (k - 1) v), .bool true]) ∧ Below W.heap.size W w' := by
  have H := Lib.hid h
  have hd : (k == (0 : Int)) = false := by simpa using hm
  obtain ⟨b0, b1, b2, b3, b4, b5⟩ := h
  have HN : Hid (Fit c (k - 1) v) := ⟨by omega, by omega, by omega, by omega, by omega, by omega⟩
  have HW := Lib.hid (with_any HN.out)
  have hw := IntWalk.wrap64_in (k - 1) (by omega)
  clear hm b0 b1 b2 b3 b4 b5
  go_enter Tryz.func58, Tryz.ntmps58
  go_wp2_with fail
  go_at_call 32
  refine (refUnpack_any H.out _).mono ?_
  rintro e w1 ⟨rfl, hb⟩
  have HB := Lib.hid hb
  clear hb
  go_wp2_with fail
  go_at_call 51
  refine (HW.out _).mono ?_
  rintro e w2 ⟨rfl, hb⟩
  have HB2 := Lib.hid (((Below.refl _ w1).alloc (Nat.le_refl _) _).trans (hb.mono (by simp)))
  clear hb
  go_wp2_with fail
  go_ret2
  exact ⟨rfl, HB.out.trans (HB2.out.mono HB.out.size)⟩
set_option maxHeartbeats 1000000 in
theorem refEnter_full {c k v l : Int} (h : Fit c k v) (hm : l ≤ k) (W : World) :
    Calls Tryz.prog 65 #[.int .u64 (gI c k v), .int .i64 l] W fun e w' => e = .returned (.tuple #[.int .u64 (gI c k v), .bool false]) ∧ Below W.heap.size W w' := by
  have H := Lib.hid h
  have hd : decide (k ≥ l) = true := by simpa using hm
  clear hd h
  go_enter Tryz.func65, Tryz.ntmps65
  go_wp2_with fail
  go_at_call 32
  refine (refUnpack_any H.out _).mono ?_
  rintro e w1 ⟨rfl, hb⟩
  have HB := Lib.hid hb
  clear hb
  go_wp2_with fail
  go_ret2
  exact ⟨rfl, HB.out.alloc HB.out.size _⟩
set_option maxHeartbeats 1000000 in
theorem refEnter_top {c k v l : Int} (h : Fit c k v) (hm : ¬ l ≤ k) (hk : k = 4095) (W : World) :
    Calls Tryz.prog 65 #[.int .u64 (gI c k v), .int .i64 l] W fun e w' => e = .returned (.tuple #[.int .u64 (gI c k v), .bool false]) ∧ Below W.heap.size W w' := by
  have H := Lib.hid h
  have hd : decide (k ≥ l) = false := by simpa using hm
  have hd2 : (k == (4095 : Int)) = true := by rw [hk]; rfl
  clear hk h
  go_enter Tryz.func65, Tryz.ntmps65
  go_wp2_with fail
  go_at_call 32
  refine (refUnpack_any H.out _).mono ?_
  rintro e w1 ⟨rfl, hb⟩
  have HB := Lib.hid hb
  clear hb
  go_wp2_with fail
  go_ret2
  exact ⟨rfl, HB.out.alloc HB.out.size _⟩
set_option maxHeartbeats 1000000 in
theorem refEnter_yes {c k v l : Int} (h : Fit c k v) (hm : ¬ l ≤ k) (hk : k ≠ 4095) (W : World) :
    Calls Tryz.prog 65 #[.int .u64 (gI c k v), .int .i64 l] W fun e w' => e = .returned (.tuple #[.int .u64 (gI c (k + 1) v), .bool true]) ∧ Below W.heap.size W w' := by
  have H := Lib.hid h
  have hd : decide (k ≥ l) = false := by simpa using hm
  have hd2 : (k == (4095 : Int)) = false := by simpa using hk
  obtain ⟨b0, b1, b2, b3, b4, b5⟩ := h
  have HN : Hid (Fit c (k + 1) v) := ⟨by omega, by omega, by omega, by omega, by omega, by omega⟩
  have HW := Lib.hid (with_any HN.out)
  have hw := IntWalk.wrap64_in (k + 1) (by omega)
  clear hk b0 b1 b2 b3 b4 b5
  go_enter Tryz.func65, Tryz.ntmps65
  go_wp2_with fail
  go_at_call 32
  refine (refUnpack_any H.out _).mono ?_
  rintro e w1 ⟨rfl, hb⟩
  have HB := Lib.hid hb
  clear hb
  go_wp2_with fail
  go_at_call 51
  refine (HW.out _).mono ?_
  rintro e w2 ⟨rfl, hb⟩
  have HB2 := Lib.hid (((Below.refl _ w1).alloc (Nat.le_refl _) _).trans (hb.mono (by simp)))
  clear hb
  go_wp2_with fail
  go_ret2
  exact ⟨rfl, HB.out.trans (HB2.out.mono HB.out.size)⟩
set_option maxHeartbeats 1000000 in
theorem refTick_no {c k v n : Int} (h : Fit c k v) (hn : n ≤ 0) (W : World) :
    Calls Tryz.prog 23 #[.int .u64 (gI c k v), .int .i64 n] W fun e w' => e = .returned (.int .u64 (gI (c) k v)) ∧ Below W.heap.size W w' := by
  have H := Lib.hid h
  have d0 : decide (n ≤ 0) = true := by simp; omega
  obtain ⟨b0, b1, b2, b3, b4, b5⟩ := h
  clear b0 b1 b2 b3 b4 b5
  go_enter Tryz.func23, Tryz.ntmps23
  go_wp2_with fail
  go_at_call 32
  refine (refUnpack_any H.out _).mono ?_
  rintro e w1 ⟨rfl, hb⟩
  have HB := Lib.hid hb
  clear hb
  go_wp2_with fail
  go_ret
  exact ⟨rfl, HB.out.alloc HB.out.size _⟩
set_option maxHeartbeats 1000000 in
theorem refTick_far {c k v n : Int} (h : Fit c k v) (hn : 1099511627776 < n) (W : World) :
    Calls Tryz.prog 23 #[.int .u64 (gI c k v), .int .i64 n] W fun e w' => e = .returned (.int .u64 (gI (1099511627775) k v)) ∧ Below W.heap.size W w' := by
  have H := Lib.hid h
  have d0 : decide (n ≤ 0) = false := by simp; omega
  have d1 : decide (n > 1099511627776) = true := by simp; omega
  obtain ⟨b0, b1, b2, b3, b4, b5⟩ := h
  have hw := IntWalk.wrap64_in (c + 1099511627776) (by omega)
  have d2 : decide (c + 1099511627776 ≥ 1099511627776) = true := by simp; omega
  have HN : Hid (Fit (1099511627775) k v) := ⟨by omega, by omega, by omega, by omega, by omega, by omega⟩
  have HW := Lib.hid (with_any HN.out)
  clear hn
  clear b0 b1 b2 b3 b4 b5
  go_enter Tryz.func23, Tryz.ntmps23
  go_wp2_with fail
  go_at_call 32
  refine (refUnpack_any H.out _).mono ?_
  rintro e w1 ⟨rfl, hb⟩
  have HB := Lib.hid hb
  clear hb
  go_wp2_with fail
  go_at_call 51
  refine (HW.out _).mono ?_
  rintro e w2 ⟨rfl, hb⟩
  have HB2 := Lib.hid (((Below.refl _ w1).alloc (Nat.le_refl _) _).trans (hb.mono (by simp)))
  clear hb
  go_wp2_with fail
  go_ret
  exact ⟨rfl, HB.out.trans (HB2.out.mono HB.out.size)⟩
set_option maxHeartbeats 1000000 in
theorem refTick_top {c k v n : Int} (h : Fit c k v) (hn : 0 < n) (hn1 : n ≤ 1099511627776) (hn2 : 1099511627775 < c + n) (W : World) :
    Calls Tryz.prog 23 #[.int .u64 (gI c k v), .int .i64 n] W fun e w' => e = .returned (.int .u64 (gI (1099511627775) k v)) ∧ Below W.heap.size W w' := by
  have H := Lib.hid h
  have d0 : decide (n ≤ 0) = false := by simp; omega
  have d1 : decide (n > 1099511627776) = false := by simp; omega
  have d2 : decide (c + n ≥ 1099511627776) = true := by simp; omega
  obtain ⟨b0, b1, b2, b3, b4, b5⟩ := h
  have hw := IntWalk.wrap64_in (c + n) (by omega)
  have HN : Hid (Fit (1099511627775) k v) := ⟨by omega, by omega, by omega, by omega, by omega, by omega⟩
  have HW := Lib.hid (with_any HN.out)
  clear hn hn1 hn2
  clear b0 b1 b2 b3 b4 b5
  go_enter Tryz.func23, Tryz.ntmps23
  go_wp2_with fail
  go_at_call 32
  refine (refUnpack_any H.out _).mono ?_
  rintro e w1 ⟨rfl, hb⟩
  have HB := Lib.hid hb
  clear hb
  go_wp2_with fail
  go_at_call 51
  refine (HW.out _).mono ?_
  rintro e w2 ⟨rfl, hb⟩
  have HB2 := Lib.hid (((Below.refl _ w1).alloc (Nat.le_refl _) _).trans (hb.mono (by simp)))
  clear hb
  go_wp2_with fail
  go_ret
  exact ⟨rfl, HB.out.trans (HB2.out.mono HB.out.size)⟩
set_option maxHeartbeats 1000000 in
theorem refTick_in {c k v n : Int} (h : Fit c k v) (hn : 0 < n) (hn2 : ¬ 1099511627775 < c + n) (W : World) :
    Calls Tryz.prog 23 #[.int .u64 (gI c k v), .int .i64 n] W fun e w' => e = .returned (.int .u64 (gI (c + n) k v)) ∧ Below W.heap.size W w' := by
  have H := Lib.hid h
  obtain ⟨b0, b1, b2, b3, b4, b5⟩ := h
  have d0 : decide (n ≤ 0) = false := by simp; omega
  have d1 : decide (n > 1099511627776) = false := by simp; omega
  have d2 : decide (c + n ≥ 1099511627776) = false := by simp; omega
  have hw := IntWalk.wrap64_in (c + n) (by omega)
  have HN : Hid (Fit (c + n) k v) := ⟨by omega, by omega, by omega, by omega, by omega, by omega⟩
  have HW := Lib.hid (with_any HN.out)
  clear hn hn2
  clear b0 b1 b2 b3 b4 b5
  go_enter Tryz.func23, Tryz.ntmps23
  go_wp2_with fail
  go_at_call 32
  refine (refUnpack_any H.out _).mono ?_
  rintro e w1 ⟨rfl, hb⟩
  have HB := Lib.hid hb
  clear hb
  go_wp2_with fail
  go_at_call 51
  refine (HW.out _).mono ?_
  rintro e w2 ⟨rfl, hb⟩
  have HB2 := Lib.hid (((Below.refl _ w1).alloc (Nat.le_refl _) _).trans (hb.mono (by simp)))
  clear hb
  go_wp2_with fail
  go_ret
  exact ⟨rfl, HB.out.trans (HB2.out.mono HB.out.size)⟩
theorem refTick_any {c k v n : Int} (h : Fit c k v) (W : World) :
    Calls Tryz.prog 23 #[.int .u64 (gI c k v), .int .i64 n] W fun e w' => e = .returned (.int .u64 (gI (later c n) k v)) ∧ Below W.heap.size W w' := by
  have b := h.c0
  unfold later
  by_cases h0 : n ≤ 0
  · rw [if_pos h0]; exact refTick_no h h0 W
  · rw [if_neg h0]
    by_cases h1 : 1099511627775 < c + n
    · rw [if_pos h1]
      by_cases h2 : n ≤ 1099511627776
      · exact refTick_top h (by omega) h2 h1 W
      · exact refTick_far h (by omega) W
    · rw [if_neg h1]; exact refTick_in h (by omega) h1 W
end Ga
end Go.Proofs.YtgcnhbjoalemlaaGreatDoor
/- Layer 14: awake; the contracts as a law's walk wants them (each answer under a name, with its frame). -/
set_option linter.unusedVariables false
set_option linter.unusedSimpArgs false
set_option maxRecDepth 100000
namespace Go.Proofs.YtgcnhbjoalemlaaGreatDoor
open Go.ChangeShapes Go.WideShapes Go.ChangeAt Go.RowKit Go.Mtl
namespace Ga
open GatM (gI Fit)

theorem quiet_below {P : Program} {f : FuncId} {args : Array Value} {w : World} {v : Value} (h : Calls P f args w fun e w' => e = .returned v ∧ ∃ n, w' = w.drewN n) : Calls P f args w fun e w' => e = .returned v ∧ Below w.heap.size w w' :=
  h.mono fun _ _ ⟨a, n, b⟩ => ⟨a, b ▸ (Below.refl _ w).drews n⟩

/-- A step that may be refused: the word behind it, and whether it was taken. -/
structure Step (c k v : Int) (ok : Bool) (c' k' v' : Int) (x : Prop) : Prop where
  fit : Fit c' k' v'
  no : ok = false → c' = c ∧ k' = k ∧ v' = v ∧ ¬ x
  yes : ok = true → x
abbrev stepV (ok : Bool) (c k v : Int) : Value := .tuple #[.int .u64 (gI c k v), .bool ok]

/-- Enter's answer: whether, and the count behind it. -/
def EN (k l : Int) (ok : Bool) (k' : Int) : Prop := ok = true ∧ k' = k + 1 ∧ ¬ l ≤ k ∧ k ≠ 4095 ∨ ok = false ∧ k' = k ∧ (l ≤ k ∨ k = 4095)
def LV (k : Int) (ok : Bool) (k' : Int) : Prop := ok = true ∧ k' = k - 1 ∧ k ≠ 0 ∨ ok = false ∧ k' = k ∧ k = 0
def SW (v : Int) (ok : Bool) (v' : Int) : Prop := ok = true ∧ v' = v + 1 ∧ v ≠ 4095 ∨ ok = false ∧ v' = v ∧ v = 4095
section
variable {c k v l : Int} {ok : Bool} {x : Int}
theorem enter_any (h : Fit c k v) (hs : EN k l ok x) (W : World) (he : Env W) :
    Calls Tryz.prog 75 #[.int .u64 (gI c k v), .int .i64 l] W fun e w' => e = .returned (stepV ok c x v) ∧ Below W.heap.size W w' := by
  rcases hs with ⟨rfl, rfl, h1, h2⟩ | ⟨rfl, rfl, h1⟩
  · exact quiet_below (enter_yes h h1 h2 W he)
  · by_cases h3 : l ≤ x
    · exact quiet_below (enter_full h h3 W he)
    · exact quiet_below (enter_top h h3 (by omega) W he)
theorem refEnter_any (h : Fit c k v) (hs : EN k l ok x) (W : World) :
    Calls Tryz.prog 65 #[.int .u64 (gI c k v), .int .i64 l] W fun e w' => e = .returned (stepV ok c x v) ∧ Below W.heap.size W w' := by
  rcases hs with ⟨rfl, rfl, h1, h2⟩ | ⟨rfl, rfl, h1⟩
  · exact refEnter_yes h h1 h2 W
  · by_cases h3 : l ≤ x
    · exact refEnter_full h h3 W
    · exact refEnter_top h h3 (by omega) W
theorem leave_any (h : Fit c k v) (hs : LV k ok x) (W : World) (he : Env W) :
    Calls Tryz.prog 56 #[.int .u64 (gI c k v)] W fun e w' => e = .returned (stepV ok c x v) ∧ Below W.heap.size W w' := by
  rcases hs with ⟨rfl, rfl, h1⟩ | ⟨rfl, rfl, h1⟩
  · exact quiet_below (leave_yes h h1 W he)
  · exact quiet_below (leave_no h h1 W he)
theorem refLeave_any (h : Fit c k v) (hs : LV k ok x) (W : World) :
    Calls Tryz.prog 58 #[.int .u64 (gI c k v)] W fun e w' => e = .returned (stepV ok c x v) ∧ Below W.heap.size W w' := by
  rcases hs with ⟨rfl, rfl, h1⟩ | ⟨rfl, rfl, h1⟩
  · exact refLeave_yes h h1 W
  · exact refLeave_no h h1 W
theorem swap_any (h : Fit c k v) (hs : SW v ok x) (W : World) (he : Env W) :
    Calls Tryz.prog 52 #[.int .u64 (gI c k v)] W fun e w' => e = .returned (stepV ok c k x) ∧ Below W.heap.size W w' := by
  rcases hs with ⟨rfl, rfl, h1⟩ | ⟨rfl, rfl, h1⟩
  · exact quiet_below (swap_yes h h1 W he)
  · exact quiet_below (swap_no h h1 W he)
theorem refSwap_any (h : Fit c k v) (hs : SW v ok x) (W : World) :
    Calls Tryz.prog 53 #[.int .u64 (gI c k v)] W fun e w' => e = .returned (stepV ok c k x) ∧ Below W.heap.size W w' := by
  rcases hs with ⟨rfl, rfl, h1⟩ | ⟨rfl, rfl, h1⟩
  · exact refSwap_yes h h1 W
  · exact refSwap_no h h1 W
end

/-- The clock of a gate that a call has handed back. -/
theorem field2 (a b c : Value) (w : World) : (Instr.field 77 (.agg #[a, b, c]) 2).run Tryz.prog w = .ok c w := by kernel_rfl
end Ga
end Go.Proofs.YtgcnhbjoalemlaaGreatDoor
/- Layer 10: contracts of lower, end, turnKind, mix, isPower, and of the reference's end. -/
set_option linter.unusedVariables false
set_option linter.unusedSimpArgs false
set_option maxRecDepth 100000
namespace Go.Proofs.YtgcnhbjoalemlaaGreatDoor
open Go.ChangeShapes Go.WideShapes Go.ChangeAt Go.RowKit Go.Mtl
namespace Ky
open KeyM (lowB isPow)

theorem ret_int {k : IntKind} {a b : Int} (h : a = b) : Ending.returned (.int k a) = .returned (.int k b) := by rw [h]
/-- A key's five cells; an endpoint's two; a packet's seven. -/
abbrev kyc (a b p q r : Int) : Array Value := #[.int .u32 a, .int .u32 b, .int .u16 p, .int .u16 q, .int .u8 r]
abbrev epc (a p : Int) : Array Value := #[.int .u32 a, .int .u32 p]
abbrev pkc (a b c d e f h : Int) : Array Value := #[.int .u8 a, .int .u32 b, .int .u32 c, .int .u16 d, .int .u16 e, .int .u8 f, .int .u8 h]

section
variable {w w' : World} {g : Nat} {a b c d e f h : Int} {t : TypeId}
theorem pk_cells (H : Blk w g (pkc a b c d e f h) t) : w.cell? ⟨g, 0, none⟩ = some (.int .u8 a) ∧ w.cell? ⟨g, 1, none⟩ = some (.int .u32 b) ∧ w.cell? ⟨g, 2, none⟩ = some (.int .u32 c) ∧ w.cell? ⟨g, 3, none⟩ = some (.int .u16 d) ∧
    w.cell? ⟨g, 4, none⟩ = some (.int .u16 e) ∧ w.cell? ⟨g, 5, none⟩ = some (.int .u8 f) ∧ w.cell? ⟨g, 6, none⟩ = some (.int .u8 h) := by
  refine ⟨?_, ?_, ?_, ?_, ?_, ?_, ?_⟩ <;> exact H.cell _ _ rfl
theorem pk_frozen (H : Blk w g (pkc a b c d e f h) t) : w.frozen? ⟨g, 0, none⟩ = false ∧ w.frozen? ⟨g, 1, none⟩ = false ∧ w.frozen? ⟨g, 2, none⟩ = false ∧ w.frozen? ⟨g, 3, none⟩ = false ∧
    w.frozen? ⟨g, 4, none⟩ = false ∧ w.frozen? ⟨g, 5, none⟩ = false ∧ w.frozen? ⟨g, 6, none⟩ = false := by
  refine ⟨?_, ?_, ?_, ?_, ?_, ?_, ?_⟩ <;> exact H.frozen _
theorem ky_cells (H : Blk w g (kyc a b c d e) t) : w.cell? ⟨g, 0, none⟩ = some (.int .u32 a) ∧ w.cell? ⟨g, 1, none⟩ = some (.int .u32 b) ∧ w.cell? ⟨g, 2, none⟩ = some (.int .u16 c) ∧ w.cell? ⟨g, 3, none⟩ = some (.int .u16 d) ∧
    w.cell? ⟨g, 4, none⟩ = some (.int .u8 e) := by
  refine ⟨?_, ?_, ?_, ?_, ?_⟩ <;> exact H.cell _ _ rfl
theorem ky_frozen (H : Blk w g (kyc a b c d e) t) : w.frozen? ⟨g, 0, none⟩ = false ∧ w.frozen? ⟨g, 1, none⟩ = false ∧ w.frozen? ⟨g, 2, none⟩ = false ∧ w.frozen? ⟨g, 3, none⟩ = false ∧ w.frozen? ⟨g, 4, none⟩ = false := by
  refine ⟨?_, ?_, ?_, ?_, ?_⟩ <;> exact H.frozen _
/-- All five cells of a key stored anew; all seven of a packet. -/
abbrev storeK (w : World) (g : Nat) (a b c d e : Int) : World :=
  ((((w.setCell ⟨g, 0, none⟩ (.int .u32 a)).setCell ⟨g, 1, none⟩ (.int .u32 b)).setCell ⟨g, 2, none⟩ (.int .u16 c)).setCell ⟨g, 3, none⟩ (.int .u16 d)).setCell ⟨g, 4, none⟩ (.int .u8 e)
theorem ky_store (H : Blk w g (kyc a b c d e) t) (a' b' c' d' e' : Int) : Blk (storeK w g a' b' c' d' e') g (kyc a' b' c' d' e') t :=
  by
  have h0 := H.set' 0 (.int .u32 a') (cs' := kyc a' b c d e) rfl
  have h1 := h0.set' 1 (.int .u32 b') (cs' := kyc a' b' c d e) rfl
  have h2 := h1.set' 2 (.int .u16 c') (cs' := kyc a' b' c' d e) rfl
  have h3 := h2.set' 3 (.int .u16 d') (cs' := kyc a' b' c' d' e) rfl
  exact h3.set' 4 (.int .u8 e') rfl
theorem below_storeK {B : Nat} {w0 : World} (hb : Below B w0 w) (hg : B ≤ g) (a b c d e : Int) : Below B w0 (storeK w g a b c d e) :=
  ((((hb.setCell (p := ⟨g, 0, none⟩) hg _).setCell (p := ⟨g, 1, none⟩) hg _).setCell (p := ⟨g, 2, none⟩) hg _).setCell (p := ⟨g, 3, none⟩) hg _).setCell (p := ⟨g, 4, none⟩) hg _
abbrev storeP (w : World) (g : Nat) (a b c d e f h : Int) : World :=
  ((((((w.setCell ⟨g, 0, none⟩ (.int .u8 a)).setCell ⟨g, 1, none⟩ (.int .u32 b)).setCell ⟨g, 2, none⟩ (.int .u32 c)).setCell ⟨g, 3, none⟩ (.int .u16 d)).setCell ⟨g, 4, none⟩ (.int .u16 e)).setCell ⟨g, 5, none⟩ (.int .u8 f)).setCell ⟨g, 6, none⟩ (.int .u8 h)
theorem storeP_other {cs : Array Value} {k : Nat} (H : Blk w g cs t) (hk : g ≠ k) (a b c d e f h : Int) : Blk (storeP w k a b c d e f h) g cs t :=
  ((((((H.other k 0 hk _).other k 1 hk _).other k 2 hk _).other k 3 hk _).other k 4 hk _).other k 5 hk _).other k 6 hk _
theorem below_storeP {B : Nat} {w0 : World} (hb : Below B w0 w) (hg : B ≤ g) (a b c d e f h : Int) : Below B w0 (storeP w g a b c d e f h) :=
  ((((((hb.setCell (p := ⟨g, 0, none⟩) hg _).setCell (p := ⟨g, 1, none⟩) hg _).setCell (p := ⟨g, 2, none⟩) hg _).setCell (p := ⟨g, 3, none⟩) hg _).setCell (p := ⟨g, 4, none⟩) hg _).setCell (p := ⟨g, 5, none⟩) hg _).setCell (p := ⟨g, 6, none⟩) hg _
end

set_option maxHeartbeats 1000000 in
theorem lower_any (a p b q : Nat) (g : Bool) (hg : lowB a p b q = g) (W : World) :
    Calls Tryz.prog 69 #[.agg (epc a p), .agg (epc b q)] W fun e w' => e = .returned (.bool g) ∧ Below W.heap.size W w' := by
  have HX := Lib.hid ((Blk.box W (epc a p) 125).alloc (.cells (epc b q) 125))
  have HY := Lib.hid (Blk.box1 W (.cells (epc a p) 125) (epc b q) 125)
  have HB := Lib.hid (((Below.refl _ W).alloc (Nat.le_refl _) (.cells (epc a p) 125)).alloc (by simp) (.cells (epc b q) 125))
  have x0 := HX.out.cell 0 _ rfl
  have x1 := HX.out.cell 1 _ rfl
  have y0 := HY.out.cell 0 _ rfl
  have y1 := HY.out.cell 1 _ rfl
  by_cases h : a = b
  · subst h
    rw [KeyM.lowB_eq] at hg
    have d0 : ((a : Int) != a) = false := by simp
    have HG := Lib.hid hg
    clear hg
    go_enter Tryz.func69, Tryz.ntmps69
    go_wp2
    go_ret
    exact ⟨by rw [← HG.out]; rfl, HB.out⟩
  · rw [KeyM.lowB_ne h] at hg
    have d0 : ((a : Int) != b) = true := by simp; omega
    have HG := Lib.hid hg
    clear hg h
    go_enter Tryz.func69, Tryz.ntmps69
    go_wp2
    go_ret
    exact ⟨by rw [← HG.out]; rfl, HB.out⟩

set_option maxHeartbeats 1000000 in
theorem end_any (a b p q r : Nat) (hp : p < 65536) (hq : q < 65536) (i : Int) (x y : Nat) (hi : i = 0 ∧ a = x ∧ p = y ∨ i = 1 ∧ b = x ∧ q = y) (W : World) :
    Calls Tryz.prog 85 #[.agg (kyc a b p q r), .int .i64 i] W fun e w' => e = .returned (.agg (epc x y)) ∧ Below W.heap.size W w' := by
  have HX := Lib.hid ((Blk.box W (kyc a b p q r) 45).alloc (.cells (epc 0 0) 125)).drew
  have HY := Lib.hid (Blk.box1 W (.cells (kyc a b p q r) 45) (epc 0 0) 125).drew
  have HB := Lib.hid (((Below.refl _ W).alloc (Nat.le_refl _) (.cells (kyc a b p q r) 45)).alloc (by simp) (.cells (epc 0 0) 125)).drew
  rcases hi with ⟨rfl, rfl, rfl⟩ | ⟨rfl, rfl, rfl⟩
  · go_enter Tryz.func85, Tryz.ntmps85
    go_wp2
    obtain ⟨w1, hw1⟩ : ∃ w1, w1 = ((W.alloc (.cells (kyc a b p q r) 45)).alloc (.cells (epc 0 0) 125)).drew := ⟨_, rfl⟩
    refine region_still_tail 10 (by kernel_rfl) (by kernel_rfl) w1 hw1 ?_
    rw [← hw1] at HX HY HB
    clear hw1
    have x0 := HX.out.cell 0 _ rfl
    have x1 := HX.out.cell 2 _ rfl
    have y0 := HY.out.cell 0 _ rfl
    have y1 := HY.out.cell 1 _ rfl
    have f0 := HY.out.frozen 0
    have f1 := HY.out.frozen 1
    have we : IntKind.u32.wrap (p : Int) = (p : Int) := by rw [IntKind.wrap_u32']; omega
    simp only [List.take_succ_cons, List.take_zero, List.drop_succ_cons, List.drop_zero]
    repeat still_step
    refine wpStill_nil ?_
    go_wp2
    have hr := (HY.out.set 0 (.int .u32 (a : Int))).set 1 (.int .u32 (p : Int))
    have r0 := hr.cell 0 (.int .u32 (a : Int)) rfl
    have r1 := hr.cell 1 (.int .u32 (p : Int)) rfl
    exact bodyPost_ret (v := .agg (epc a p)) (by simp [results, Tryz.results85, go_sem, r0, r1]) rfl ⟨rfl, (HB.out.setCell (by simp) _).setCell (by simp) _⟩
  · go_enter Tryz.func85, Tryz.ntmps85
    go_wp2
    obtain ⟨w1, hw1⟩ : ∃ w1, w1 = ((W.alloc (.cells (kyc a b p q r) 45)).alloc (.cells (epc 0 0) 125)).drew := ⟨_, rfl⟩
    refine region_still_tail 10 (by kernel_rfl) (by kernel_rfl) w1 hw1 ?_
    rw [← hw1] at HX HY HB
    clear hw1
    have x0 := HX.out.cell 1 _ rfl
    have x1 := HX.out.cell 3 _ rfl
    have y0 := HY.out.cell 0 _ rfl
    have y1 := HY.out.cell 1 _ rfl
    have f0 := HY.out.frozen 0
    have f1 := HY.out.frozen 1
    have we : IntKind.u32.wrap (q : Int) = (q : Int) := by rw [IntKind.wrap_u32']; omega
    simp only [List.take_succ_cons, List.take_zero, List.drop_succ_cons, List.drop_zero]
    repeat still_step
    refine wpStill_nil ?_
    go_wp2
    have hr := (HY.out.set 0 (.int .u32 (b : Int))).set 1 (.int .u32 (q : Int))
    have r0 := hr.cell 0 (.int .u32 (b : Int)) rfl
    have r1 := hr.cell 1 (.int .u32 (q : Int)) rfl
    exact bodyPost_ret (v := .agg (epc b q)) (by simp [results, Tryz.results85, go_sem, r0, r1]) rfl ⟨rfl, (HB.out.setCell (by simp) _).setCell (by simp) _⟩

/-- The other kind of echo. -/
def tkN (k : Nat) : Nat := if k = 8 then 0 else if k = 0 then 8 else k
theorem turnKind_any (k x : Nat) (hx : tkN k = x) (W : World) :
    Calls Tryz.prog 37 #[.int .u8 (k : Int)] W fun e w' => e = .returned (.int .u8 (x : Int)) ∧ W = w' := by
  unfold tkN at hx
  by_cases h8 : k = 8
  · rw [if_pos h8] at hx
    subst h8 hx
    go_enter Tryz.func37, Tryz.ntmps37
    go_wp2
    go_ret
    exact ⟨rfl, rfl⟩
  · rw [if_neg h8] at hx
    by_cases h0 : k = 0
    · rw [if_pos h0] at hx
      subst h0 hx
      clear h8
      go_enter Tryz.func37, Tryz.ntmps37
      go_wp2
      go_ret
      exact ⟨rfl, rfl⟩
    · rw [if_neg h0] at hx
      subst hx
      have d8 : ((k : Int) == 8) = false := by simp; omega
      have d0 : ((k : Int) == 0) = false := by simp; omega
      clear h0 h8
      go_enter Tryz.func37, Tryz.ntmps37
      go_wp2
      go_ret
      exact ⟨rfl, rfl⟩

theorem refEnd_any (a p : Nat) (ha : a < 4294967296) (hp : p < 65536) (W : World) :
    Calls Tryz.prog 92 #[.int .u32 (a : Int), .int .u16 (p : Int)] W fun e w' => e = .returned (.int .u64 ((a * 65536 + p : Nat) : Int)) ∧ W = w' := by
  go_enter Tryz.func92, Tryz.ntmps92
  go_wp2
  go_ret
  exact ⟨by simp, rfl⟩
theorem i64_and_nat (a b : Nat) (ha : a < 9223372036854775808) (hb : b < 9223372036854775808) : bits .and .i64 (a : Int) (b : Int) = ((a &&& b : Nat) : Int) := by
  have hx : a &&& b < 2 ^ 63 := Nat.and_lt_two_pow _ (by omega)
  show IntKind.i64.wrap ((BitVec.ofInt 64 (a : Int) &&& BitVec.ofInt 64 (b : Int)).toNat : Int) = _
  rw [BitVec.toNat_and, ofInt_u64 a (by omega), ofInt_u64 b (by omega)]
  exact IntWalk.i64_in _ (by omega)
theorem pow_is (n : Nat) (h1 : 1 ≤ n) (h2 : n ≤ 4096) : (bits .and .i64 (n : Int) ((n : Int) - 1) == 0) = isPow (n : Int) := by
  rw [show (n : Int) - 1 = ((n - 1 : Nat) : Int) by omega, i64_and_nat n (n - 1) (by omega) (by omega), ← KeyM.pow_and n h1 h2]
  generalize n &&& (n - 1) = x
  rw [Bool.eq_iff_iff]
  simp
end Ky
end Go.Proofs.YtgcnhbjoalemlaaGreatDoor
/- Layer 10: contracts of the reference's Of, Hash, Stripe, Less. -/
set_option linter.unusedVariables false
set_option linter.unusedSimpArgs false
set_option maxRecDepth 100000
namespace Go.Proofs.YtgcnhbjoalemlaaGreatDoor
open Go.ChangeShapes Go.WideShapes Go.ChangeAt Go.RowKit Go.Mtl
namespace Ky
open KeyM (lowB isPow lessB)

theorem refEnd_x (a p x : Nat) (hx : a * 65536 + p = x) (ha : a < 4294967296) (hp : p < 65536) (W : World) :
    Calls Tryz.prog 92 #[.int .u32 (a : Int), .int .u16 (p : Int)] W fun e w' => e = .returned (.int .u64 (x : Int)) ∧ w' = W :=
  (refEnd_any a p ha hp W).mono fun _ _ ⟨h, hw⟩ => ⟨hx ▸ h, hw.symm⟩

set_option maxHeartbeats 2000000 in
theorem refOf_any (pr sr ds sp dp f kd : Nat) (hsr : sr < 4294967296) (hds : ds < 4294967296) (hsp : sp < 65536) (hdp : dp < 65536) (a b p q : Nat) (g : Bool) (hg : lowB ds dp sr sp = g) (hk : g = true ∧ ds = a ∧ sr = b ∧ dp = p ∧ sp = q ∨ g = false ∧ sr = a ∧ ds = b ∧ sp = p ∧ dp = q) (W : World) :
    Calls Tryz.prog 59 #[.agg (pkc pr sr ds sp dp f kd)] W fun e w' => e = .returned (.tuple #[.agg (kyc a b p q pr), .bool g]) ∧ Below W.heap.size W w' := by
  have HX := Lib.hid ((Blk.box W (pkc pr sr ds sp dp f kd) 41).alloc (.cells (kyc 0 0 0 0 0) 45))
  have HY := Lib.hid (Blk.box1 W (.cells (pkc pr sr ds sp dp f kd) 41) (kyc 0 0 0 0 0) 45)
  have HB := Lib.hid (((Below.refl _ W).alloc (Nat.le_refl _) (.cells (pkc pr sr ds sp dp f kd) 41)).alloc (by simp) (.cells (kyc 0 0 0 0 0) 45))
  obtain ⟨x0, x1, x2, x3, x4, x5, x6⟩ := pk_cells HX.out
  obtain ⟨f0, f1, f2, f3, f4, f5, f6⟩ := pk_frozen HX.out
  obtain ⟨x, hx⟩ : ∃ x, sr * 65536 + sp = x := ⟨_, rfl⟩
  obtain ⟨y, hy⟩ : ∃ y, ds * 65536 + dp = y := ⟨_, rfl⟩
  have E1 := Lib.hid (refEnd_x sr sp x hx hsr hsp)
  have E2 := Lib.hid (refEnd_x ds dp y hy hds hdp)
  rw [KeyM.low_num hdp hsp, hx, hy] at hg
  have hX : Hid ((IntKind.u64.wrap ((x : Int) / 65536) % 4294967296 = sr ∧ (x : Int) % 65536 = sp) ∧ IntKind.u64.wrap ((y : Int) / 65536) % 4294967296 = ds ∧ (y : Int) % 65536 = dp) := by
    show _ ∧ _
    rw [IntKind.wrap_u64, IntKind.wrap_u64]; omega
  clear hx hy
  rcases hk with ⟨rfl, rfl, rfl, rfl, rfl⟩ | ⟨rfl, rfl, rfl, rfl, rfl⟩
  · have d0 : y < x := by simpa using hg
    clear hg
    go_enter Tryz.func59, Tryz.ntmps59
    go_wp2
    go_quiet ((go_at_call 92; first | with_reducible exact Calls.quiet_of_same (E1.out _) | with_reducible exact Calls.quiet_of_same (E2.out _)))
    go_wp2
    obtain ⟨⟨n1, n2⟩, n3, n4⟩ := hX.out
    simp only [n1, n2, n3, n4]
    have HR := ky_store (HY.out.drewN nq) ds sr dp sp pr
    obtain ⟨r0, r1, r2, r3, r4⟩ := ky_cells HR
    exact bodyPost_ret (v := .tuple #[.agg (kyc ds sr dp sp pr), .bool true]) (by simp [results, Tryz.results59, go_sem, r0, r1, r2, r3, r4]) rfl ⟨rfl, below_storeK (HB.out.drews nq) (by simp) _ _ _ _ _⟩
  · have d0 : ¬ y < x := by simpa using hg
    clear hg
    go_enter Tryz.func59, Tryz.ntmps59
    go_wp2
    go_quiet ((go_at_call 92; first | with_reducible exact Calls.quiet_of_same (E1.out _) | with_reducible exact Calls.quiet_of_same (E2.out _)))
    go_wp2
    obtain ⟨⟨n1, n2⟩, n3, n4⟩ := hX.out
    simp only [n1, n2, n3, n4]
    have HR := ky_store (HY.out.drewN nq) sr ds sp dp pr
    obtain ⟨r0, r1, r2, r3, r4⟩ := ky_cells HR
    exact bodyPost_ret (v := .tuple #[.agg (kyc sr ds sp dp pr), .bool false]) (by simp [results, Tryz.results59, go_sem, r0, r1, r2, r3, r4]) rfl ⟨rfl, below_storeK (HB.out.drews nq) (by simp) _ _ _ _ _⟩

theorem pow_le {j e : Nat} (h : j ≤ e) : 1 ≤ 2 ^ j ∧ 2 ^ j ≤ 2 ^ e := ⟨Nat.one_le_two_pow, Nat.pow_le_pow_right (by decide) h⟩
theorem pow_big {j : Nat} (h1 : j ≤ 13) (h2 : ¬ j ≤ 12) : 2 ^ j = 8192 := by
  obtain rfl : j = 13 := by omega
  rfl
set_option maxHeartbeats 2000000 in
theorem refLess_any (a b p q r a2 b2 p2 q2 r2 : Nat) (ha : a < 4294967296) (hb : b < 4294967296) (hp : p < 65536) (hq : q < 65536) (ha2 : a2 < 4294967296) (hb2 : b2 < 4294967296) (hp2 : p2 < 65536) (hq2 : q2 < 65536) (g : Bool) (hg : lessB a b p q r a2 b2 p2 q2 r2 = g) (W : World) :
    Calls Tryz.prog 66 #[.agg (kyc a b p q r), .agg (kyc a2 b2 p2 q2 r2)] W fun e w' => e = .returned (.bool g) ∧ Below W.heap.size W w' := by
  have HX0 := Lib.hid ((Blk.box W (kyc a b p q r) 45).alloc (.cells (kyc a2 b2 p2 q2 r2) 45))
  have HY0 := Lib.hid (Blk.box1 W (.cells (kyc a b p q r) 45) (kyc a2 b2 p2 q2 r2) 45)
  have HB0 := Lib.hid (((Below.refl _ W).alloc (Nat.le_refl _) (.cells (kyc a b p q r) 45)).alloc (by simp) (.cells (kyc a2 b2 p2 q2 r2) 45))
  obtain ⟨x0, x1, x2, x3, x4⟩ := ky_cells HX0.out
  obtain ⟨y0, y1, y2, y3, y4⟩ := ky_cells HY0.out
  obtain ⟨k1, c1⟩ : ∃ y, a * 65536 + p = y := ⟨_, rfl⟩
  obtain ⟨k2, c2⟩ : ∃ y, a2 * 65536 + p2 = y := ⟨_, rfl⟩
  obtain ⟨k3, c3⟩ : ∃ y, b * 65536 + q = y := ⟨_, rfl⟩
  obtain ⟨k4, c4⟩ : ∃ y, b2 * 65536 + q2 = y := ⟨_, rfl⟩
  have E1 := Lib.hid (refEnd_x a p k1 c1 ha hp)
  have E2 := Lib.hid (refEnd_x a2 p2 k2 c2 ha2 hp2)
  have E3 := Lib.hid (refEnd_x b q k3 c3 hb hq)
  have E4 := Lib.hid (refEnd_x b2 q2 k4 c4 hb2 hq2)
  unfold lessB at hg
  rw [KeyM.low_num hp hp2, KeyM.low_num hq hq2, c1, c2, c3, c4] at hg
  by_cases h1 : r = r2
  · rw [if_neg (by omega)] at hg
    have d0 : ((r : Int) != r2) = false := by simp; omega
    have he : (a ≠ a2 ∨ p ≠ p2) ↔ k1 ≠ k2 := by omega
    by_cases h2 : k1 = k2
    · rw [if_neg (by rw [he]; omega)] at hg
      have d1 : ((k1 : Int) != k2) = false := by simp; omega
      have HG := Lib.hid hg
      clear hg h1 h2 he c1 c2 c3 c4 ha hb hp hq ha2 hb2 hp2 hq2
      go_enter Tryz.func66, Tryz.ntmps66
      go_wp2
      obtain ⟨w1, hw1⟩ : ∃ u, u = ((W.alloc (.cells (kyc a b p q r) 45)).alloc (.cells (kyc a2 b2 p2 q2 r2) 45)).drew := ⟨_, rfl⟩
      refine region_still_tail 14 (by kernel_rfl) (by kernel_rfl) w1 hw1 ?_
      have HX1 : Hid (Blk w1 W.heap.size (kyc a b p q r) 45) := hw1 ▸ Lib.hid HX0.out.drew
      have HY1 : Hid (Blk w1 (W.heap.size + 1) (kyc a2 b2 p2 q2 r2) 45) := hw1 ▸ Lib.hid HY0.out.drew
      have HB1 : Hid (Below W.heap.size W w1) := hw1 ▸ Lib.hid HB0.out.drew
      clear hw1
      have z0 := HX1.out.cell 0 _ rfl
      have z1 := HX1.out.cell 2 _ rfl
      have z2 := HY1.out.cell 0 _ rfl
      have z3 := HY1.out.cell 2 _ rfl
      simp only [List.take_succ_cons, List.take_zero, List.drop_succ_cons, List.drop_zero]
      repeat still_step
      still_call (E1.out _)
      repeat still_step
      still_call (E2.out _)
      repeat still_step
      refine wpStill_nil ?_
      clear z0 z1 z2 z3
      go_wp2
      clear x0 x1 x2 x3 x4 y0 y1 y2 y3 y4
      obtain ⟨w2, hw2⟩ : ∃ u, u = w1.drew := ⟨_, rfl⟩
      refine region_still_tail 15 (by kernel_rfl) (by kernel_rfl) w2 hw2 ?_
      have HX2 : Hid (Blk w2 W.heap.size (kyc a b p q r) 45) := hw2 ▸ Lib.hid HX1.out.drew
      have HY2 : Hid (Blk w2 (W.heap.size + 1) (kyc a2 b2 p2 q2 r2) 45) := hw2 ▸ Lib.hid HY1.out.drew
      have HB2 : Hid (Below W.heap.size W w2) := hw2 ▸ Lib.hid HB1.out.drew
      clear hw2
      have z0 := HX2.out.cell 1 _ rfl
      have z1 := HX2.out.cell 3 _ rfl
      have z2 := HY2.out.cell 1 _ rfl
      have z3 := HY2.out.cell 3 _ rfl
      simp only [List.take_succ_cons, List.take_zero, List.drop_succ_cons, List.drop_zero]
      repeat still_step
      still_call (E3.out _)
      repeat still_step
      still_call (E4.out _)
      repeat still_step
      refine wpStill_nil ?_
      clear z0 z1 z2 z3
      go_wp2
      go_ret
      exact ⟨by rw [← HG.out]; rfl, HB2.out⟩
    · rw [if_pos (by rw [he]; omega)] at hg
      have d1 : ((k1 : Int) != k2) = true := by simp; omega
      have HG := Lib.hid hg
      clear hg h1 h2 he c1 c2 c3 c4 ha hb hp hq ha2 hb2 hp2 hq2
      go_enter Tryz.func66, Tryz.ntmps66
      go_wp2
      obtain ⟨w1, hw1⟩ : ∃ u, u = ((W.alloc (.cells (kyc a b p q r) 45)).alloc (.cells (kyc a2 b2 p2 q2 r2) 45)).drew := ⟨_, rfl⟩
      refine region_still_tail 14 (by kernel_rfl) (by kernel_rfl) w1 hw1 ?_
      have HX1 : Hid (Blk w1 W.heap.size (kyc a b p q r) 45) := hw1 ▸ Lib.hid HX0.out.drew
      have HY1 : Hid (Blk w1 (W.heap.size + 1) (kyc a2 b2 p2 q2 r2) 45) := hw1 ▸ Lib.hid HY0.out.drew
      have HB1 : Hid (Below W.heap.size W w1) := hw1 ▸ Lib.hid HB0.out.drew
      clear hw1
      have z0 := HX1.out.cell 0 _ rfl
      have z1 := HX1.out.cell 2 _ rfl
      have z2 := HY1.out.cell 0 _ rfl
      have z3 := HY1.out.cell 2 _ rfl
      simp only [List.take_succ_cons, List.take_zero, List.drop_succ_cons, List.drop_zero]
      repeat still_step
      still_call (E1.out _)
      repeat still_step
      still_call (E2.out _)
      repeat still_step
      refine wpStill_nil ?_
      clear z0 z1 z2 z3
      go_wp2
      go_ret
      exact ⟨by rw [← HG.out]; rfl, HB1.out⟩
  · rw [if_pos h1] at hg
    have d0 : ((r : Int) != r2) = true := by simp; omega
    have HG := Lib.hid hg
    clear hg h1 c1 c2 c3 c4 ha hb hp hq ha2 hb2 hp2 hq2
    go_enter Tryz.func66, Tryz.ntmps66
    go_wp2
    go_ret
    exact ⟨by rw [← HG.out]; rfl, HB0.out⟩
end Ky
end Go.Proofs.YtgcnhbjoalemlaaGreatDoor
/- Layer 10: contracts of Turn, Of, Hash, Stripe, Less. -/
set_option linter.unusedVariables false
set_option linter.unusedSimpArgs false
set_option maxRecDepth 100000
namespace Go.Proofs.YtgcnhbjoalemlaaGreatDoor
open Go.ChangeShapes Go.WideShapes Go.ChangeAt Go.RowKit Go.Mtl
namespace Ky
open KeyM (lowB isPow lessB)

/-- The kind in the other direction. -/
def tkP (pr kd : Nat) : Nat := if pr = 1 then tkN kd else kd
set_option maxHeartbeats 2000000 in
theorem turn_any (pr sr ds sp dp f kd x : Nat) (hx : tkP pr kd = x) (W : World) :
    Calls Tryz.prog 15 #[.agg (pkc pr sr ds sp dp f kd)] W fun e w' => e = .returned (.agg (pkc pr ds sr dp sp f x)) ∧ Below W.heap.size W w' := by
  have HX := Lib.hid ((Blk.box W (pkc pr sr ds sp dp f kd) 41).alloc (.cells (pkc 0 0 0 0 0 0 0) 41))
  have HY := Lib.hid (Blk.box1 W (.cells (pkc pr sr ds sp dp f kd) 41) (pkc 0 0 0 0 0 0 0) 41)
  obtain ⟨x0, x1, x2, x3, x4, x5, x6⟩ := pk_cells HX.out
  obtain ⟨f0, f1, f2, f3, f4, f5, f6⟩ := pk_frozen HX.out
  obtain ⟨g0, g1, g2, g3, g4, g5, g6⟩ := pk_frozen HY.out
  obtain ⟨y0, y1, y2, y3, y4, y5, y6⟩ := pk_cells HY.out
  unfold tkP at hx
  by_cases h1 : pr = 1
  · rw [if_pos h1] at hx
    subst h1
    have HK := Lib.hid (turnKind_any kd x hx)
    clear hx
    go_enter Tryz.func15, Tryz.ntmps15
    go_wp2_with fail
    refine (HK.out _).mono ?_
    rintro e w' ⟨rfl, rfl⟩
    go_wp2_with fail
    have HR := Blk.box1 W (.cells (pkc 1 ds sr dp sp f x) 41) (pkc 1 ds sr dp sp f x) 41
    obtain ⟨r0, r1, r2, r3, r4, r5, r6⟩ := pk_cells HR
    exact bodyPost_ret (v := .agg (pkc 1 ds sr dp sp f x)) (by simp [results, Tryz.results15, go_sem, r0, r1, r2, r3, r4, r5, r6]) rfl ⟨rfl, ((Below.refl _ W).alloc (Nat.le_refl _) _).alloc (by simp) _⟩
  · rw [if_neg h1] at hx
    subst hx
    have d1 : ((pr : Int) == 1) = false := by simp; omega
    clear h1
    go_enter Tryz.func15, Tryz.ntmps15
    go_wp2_with fail
    have HR := Blk.box1 W (.cells (pkc pr ds sr dp sp f kd) 41) (pkc pr ds sr dp sp f kd) 41
    obtain ⟨r0, r1, r2, r3, r4, r5, r6⟩ := pk_cells HR
    exact bodyPost_ret (v := .agg (pkc pr ds sr dp sp f kd)) (by simp [results, Tryz.results15, go_sem, r0, r1, r2, r3, r4, r5, r6]) rfl ⟨rfl, ((Below.refl _ W).alloc (Nat.le_refl _) _).alloc (by simp) _⟩

set_option maxHeartbeats 2000000 in
theorem of_any (pr sr ds sp dp f kd : Nat) (hsp : sp < 65536) (hdp : dp < 65536) (a b p q : Nat) (g : Bool) (hg : lowB ds dp sr sp = g) (hk : g = true ∧ ds = a ∧ sr = b ∧ dp = p ∧ sp = q ∨ g = false ∧ sr = a ∧ ds = b ∧ sp = p ∧ dp = q) (W : World) :
    Calls Tryz.prog 38 #[.agg (pkc pr sr ds sp dp f kd)] W fun e w' => e = .returned (.tuple #[.agg (kyc a b p q pr), .bool g]) ∧ Below W.heap.size W w' := by
  have HX := Lib.hid ((Blk.box W (pkc pr sr ds sp dp f kd) 41).alloc (.cells (kyc 0 0 0 0 0) 45))
  have HY := Lib.hid (Blk.box1 W (.cells (pkc pr sr ds sp dp f kd) 41) (kyc 0 0 0 0 0) 45)
  have HB := Lib.hid (((Below.refl _ W).alloc (Nat.le_refl _) (.cells (pkc pr sr ds sp dp f kd) 41)).alloc (by simp) (.cells (kyc 0 0 0 0 0) 45))
  obtain ⟨x0, x1, x2, x3, x4, x5, x6⟩ := pk_cells HX.out
  obtain ⟨f0, f1, f2, f3, f4, f5, f6⟩ := pk_frozen HX.out
  have HL := Lib.hid (lower_any ds dp sr sp g hg)
  clear hg
  go_enter Tryz.func38, Tryz.ntmps38
  go_wp2_with fail
  refine (HL.out _).mono ?_
  rintro e w1 ⟨rfl, hb1⟩
  have HX1 := Lib.hid (HX.out.next hb1)
  have HY1 := Lib.hid (HY.out.next hb1)
  have HB1 := Lib.hid (HB.out.trans (hb1.mono HB.out.size))
  clear hb1 HX HY HB HL x0 x1 x2 x3 x4 x5 x6 f0 f1 f2 f3 f4 f5 f6
  obtain ⟨x0, x1, x2, x3, x4, x5, x6⟩ := pk_cells HX1.out
  obtain ⟨f0, f1, f2, f3, f4, f5, f6⟩ := pk_frozen HX1.out
  obtain ⟨y0, y1, y2, y3, y4⟩ := ky_cells HY1.out
  obtain ⟨g0, g1, g2, g3, g4⟩ := ky_frozen HY1.out
  rcases hk with ⟨rfl, rfl, rfl, rfl, rfl⟩ | ⟨rfl, rfl, rfl, rfl, rfl⟩
  · obtain ⟨z, hz⟩ : ∃ z, tkP pr kd = z := ⟨_, rfl⟩
    have HT := Lib.hid (turn_any pr sr ds sp dp f kd z hz)
    clear hz
    go_wp2_with fail
    refine (HT.out _).mono ?_
    rintro e w2 ⟨rfl, hb2⟩
    have HX2 := Lib.hid (HX1.out.next hb2)
    have HY2 := Lib.hid (HY1.out.next hb2)
    have HB2 := Lib.hid (HB1.out.trans (hb2.mono HB1.out.size))
    clear hb2 HX1 HY1 HB1 HT x0 x1 x2 x3 x4 x5 x6 f0 f1 f2 f3 f4 f5 f6 y0 y1 y2 y3 y4 g0 g1 g2 g3 g4
    obtain ⟨x0, x1, x2, x3, x4, x5, x6⟩ := pk_cells HX2.out
    obtain ⟨f0, f1, f2, f3, f4, f5, f6⟩ := pk_frozen HX2.out
    obtain ⟨y0, y1, y2, y3, y4⟩ := ky_cells HY2.out
    obtain ⟨g0, g1, g2, g3, g4⟩ := ky_frozen HY2.out
    go_wp2_with fail
    have HR := ky_store (storeP_other HY2.out (k := W.heap.size) (by simp) pr ds sr dp sp f z) ds sr dp sp pr
    obtain ⟨r0, r1, r2, r3, r4⟩ := ky_cells HR
    exact bodyPost_ret (v := .tuple #[.agg (kyc ds sr dp sp pr), .bool true]) (by simp [results, Tryz.results38, go_sem, r0, r1, r2, r3, r4]) rfl ⟨rfl, below_storeK (below_storeP HB2.out (Nat.le_refl _) _ _ _ _ _ _ _) (by simp) _ _ _ _ _⟩
  · go_wp2_with fail
    have HR := ky_store HY1.out sr ds sp dp pr
    obtain ⟨r0, r1, r2, r3, r4⟩ := ky_cells HR
    exact bodyPost_ret (v := .tuple #[.agg (kyc sr ds sp dp pr), .bool false]) (by simp [results, Tryz.results38, go_sem, r0, r1, r2, r3, r4]) rfl ⟨rfl, below_storeK HB1.out (by simp) _ _ _ _ _⟩

end Ky
end Go.Proofs.YtgcnhbjoalemlaaGreatDoor
/- Layer 10: endpoints and keys compared whole. -/
set_option linter.unusedVariables false
set_option linter.unusedSimpArgs false
set_option maxRecDepth 100000
namespace Go.Proofs.YtgcnhbjoalemlaaGreatDoor
open Go.ChangeShapes Go.WideShapes Go.ChangeAt Go.RowKit Go.Mtl
namespace Ky

theorem ep_is : Tryz.prog.underlying 125 = some (.array 2 38) := by kernel_rfl
theorem ky_fields : Tryz.prog.underlying 45 = some (.struct (Tryz.prog.fieldsOf 45)) := by kernel_rfl
theorem ky_stood : Tryz.prog.stoodInHeld 45 = false := by kernel_rfl
theorem ky_lay : (Tryz.prog.fieldsOf 45).toList.map (fun f => (f.type, f.offset)) = [(42, 0), (43, 2), (5, 4)] := by kernel_rfl
theorem ky_names : (Tryz.prog.fieldsOf 45).toList.all (fun f => f.name != "_") = true := by kernel_rfl
theorem u32_cells : Tryz.prog.cellsOf 38 = 1 := by kernel_rfl
theorem u16_cells : Tryz.prog.cellsOf 39 = 1 := by kernel_rfl
theorem u32_info : (Tryz.prog.info? 38).isSome = true := by kernel_rfl
theorem u16_info : (Tryz.prog.info? 39).isSome = true := by kernel_rfl
theorem ar4_is : Tryz.prog.underlying 42 = some (.array 2 38) := by kernel_rfl
theorem ar2_is : Tryz.prog.underlying 43 = some (.array 2 39) := by kernel_rfl

theorem pair4 (d : Nat) (t : TypeId) (ht : Tryz.prog.underlying t = some (.array 2 38)) (a p b q : Int) (w : World) : (Op.equalIn (d + 2) t (.agg (epc a p)) (.agg (epc b q))).run Tryz.prog w = .ok (decide (a = b ∧ p = q)) w := by
  obtain ⟨i4, h4⟩ := Option.isSome_iff_exists.1 u32_info
  rw [run_equalIn_array w (d + 1) _ _ ht h4]
  by_cases h1 : a = b
  · by_cases h2 : p = q
    · simp [u32_cells, Op.eqItems, List.range, List.range.loop, go_sem, h1, h2]
    · simp [u32_cells, Op.eqItems, List.range, List.range.loop, go_sem, h1, h2]
  · simp [u32_cells, Op.eqItems, List.range, List.range.loop, go_sem, h1]
theorem pair2 (d : Nat) (a p b q : Int) (w : World) : (Op.equalIn (d + 2) 43 (.agg #[.int .u16 a, .int .u16 p]) (.agg #[.int .u16 b, .int .u16 q])).run Tryz.prog w = .ok (decide (a = b ∧ p = q)) w := by
  obtain ⟨i4, h4⟩ := Option.isSome_iff_exists.1 u16_info
  rw [run_equalIn_array w (d + 1) _ _ ar2_is h4]
  by_cases h1 : a = b
  · by_cases h2 : p = q
    · simp [u16_cells, Op.eqItems, List.range, List.range.loop, go_sem, h1, h2]
    · simp [u16_cells, Op.eqItems, List.range, List.range.loop, go_sem, h1, h2]
  · simp [u16_cells, Op.eqItems, List.range, List.range.loop, go_sem, h1]
theorem ep_eq (a p b q : Int) (w : World) : (Op.equalIn 10000 125 (.agg (epc a p)) (.agg (epc b q))).run Tryz.prog w = .ok (decide (a = b ∧ p = q)) w := pair4 9998 _ ep_is a p b q w
theorem ky_eq (a b p q r a2 b2 p2 q2 r2 : Int) (w : World) : (Op.equalIn 10000 45 (.agg (kyc a b p q r)) (.agg (kyc a2 b2 p2 q2 r2))).run Tryz.prog w = .ok (decide (a = a2 ∧ b = b2 ∧ p = p2 ∧ q = q2 ∧ r = r2)) w := by
  rw [show (10000 : Nat) = 9999 + 1 from rfl, run_equalIn_struct w 9999 _ _ _ ky_fields ky_stood]
  have hl := ky_lay
  have hn := ky_names
  generalize (Tryz.prog.fieldsOf 45).toList = l at hl hn ⊢
  rcases l with _ | ⟨f1, _ | ⟨f2, _ | ⟨f3, _ | ⟨f4, l⟩⟩⟩⟩ <;> simp at hl hn
  obtain ⟨⟨t1, o1⟩, ⟨t2, o2⟩, t3, o3⟩ := hl
  obtain ⟨n1, n2, n3⟩ := hn
  have c1 : ∀ (a b p q r : Int), (part 42 (kyc a b p q r) 0).run Tryz.prog w = .ok (.agg (epc a b)) w := fun a b p q r => by simp [go_sem]
  have c2 : ∀ (a b p q r : Int), (part 43 (kyc a b p q r) 2).run Tryz.prog w = .ok (.agg #[.int .u16 p, .int .u16 q]) w := fun a b p q r => by simp [go_sem]
  have c3 : ∀ (a b p q r : Int), (part 5 (kyc a b p q r) 4).run Tryz.prog w = .ok (.int .u8 r) w := fun a b p q r => by simp [go_sem]
  have q1 : (Op.equalIn 9999 42 (.agg (epc a b)) (.agg (epc a2 b2))).run Tryz.prog w = .ok (decide (a = a2 ∧ b = b2)) w := pair4 9997 _ ar4_is a b a2 b2 w
  have q2' : (Op.equalIn 9999 43 (.agg #[.int .u16 p, .int .u16 q]) (.agg #[.int .u16 p2, .int .u16 q2])).run Tryz.prog w = .ok (decide (p = p2 ∧ q = q2)) w := pair2 9997 p q p2 q2 w
  have q3 : (Op.equalIn 9999 5 (.int .u8 r) (.int .u8 r2)).run Tryz.prog w = .ok (r == r2) w := run_equalIn_int w 9998 _ .u8 .u8 r r2 (by kernel_rfl)
  simp only [Op.eqFields, ne_eq, n1, n2, n3, not_false_eq_true, if_true, t1, t2, t3, o1, o2, o3, Sem.run_bind, c1, c2, c3, Result.andThen_ok, q1, q2', q3, Sem.run_ite, Sem.run_pure]
  by_cases h1 : a = a2 ∧ b = b2
  · by_cases h2 : p = p2 ∧ q = q2
    · by_cases h3 : r = r2
      · simp [h1, h2, h3]
      · simp [h1, h2, h3]
    · have h4 : ¬ (a = a2 ∧ b = b2 ∧ p = p2 ∧ q = q2 ∧ r = r2) := fun h => h2 ⟨h.2.2.1, h.2.2.2.1⟩
      rw [decide_eq_true h1, decide_eq_false h2, decide_eq_false h4]; simp
  · have h4 : ¬ (a = a2 ∧ b = b2 ∧ p = p2 ∧ q = q2 ∧ r = r2) := fun h => h1 ⟨h.1, h.2.1⟩
    rw [decide_eq_false h1, decide_eq_false h4]; simp
theorem ep_same (a p : Int) (w : World) : (Op.equalIn 10000 125 (.agg #[.int .u32 a, .int .u32 p]) (.agg #[.int .u32 a, .int .u32 p])).run Tryz.prog w = .ok true w := (ep_eq a p a p w).trans (by simp)
theorem ep_diff (a p b q : Int) (h : ¬ (a = b ∧ p = q)) (w : World) : (Op.equalIn 10000 125 (.agg #[.int .u32 a, .int .u32 p]) (.agg #[.int .u32 b, .int .u32 q])).run Tryz.prog w = .ok false w := (ep_eq a p b q w).trans (by rw [decide_eq_false h])
end Ky
end Go.Proofs.YtgcnhbjoalemlaaGreatDoor
