/- Several texts of this proof in one file, each in its own namespace. -/
import Derived.Test.YtcjppfggllbbeaaGreatDoorRows
import Derived.Test.YtcjppfggllbbeaaGreatDoorJ2
import Derived.Test.YtcjppfggllbbeaaGreatDoorFldA
import Derived.Test.YtcjppfggllbbeaaGreatDoorJ6
import Derived.Test.YtcjppfggllbbeaaGreatDoorComS
import Derived.BigQuiet
import Derived.IntWalk
/- Layer 14: the table of the word's parts (Env), and the contracts of gate.get and gate.put. -/
set_option linter.unusedVariables false
set_option linter.unusedSimpArgs false
set_option maxRecDepth 100000
namespace Go.Proofs.YtcjppfggllbbeaaGreatDoor
open Go.ChangeShapes Go.WideShapes Go.ChangeAt Go.RowKit Go.Mtl
namespace Ga
open GatM (gI Fit)

theorem gParts : Tryz.prog.globalNamed "mantlet/gate.parts" = some 0 := by kernel_rfl

/-- What the table of parts holds. -/
structure Env (w : World) : Prop where
  c0 : w.cell? ⟨0, 0, none⟩ = some (.int .i64 0)
  c1 : w.cell? ⟨0, 1, none⟩ = some (.int .i64 40)
  c2 : w.cell? ⟨0, 2, none⟩ = some (.int .i64 1099511627775)
  c3 : w.cell? ⟨0, 3, none⟩ = some (.int .i64 40)
  c4 : w.cell? ⟨0, 4, none⟩ = some (.int .i64 12)
  c5 : w.cell? ⟨0, 5, none⟩ = some (.int .i64 4095)
  c6 : w.cell? ⟨0, 6, none⟩ = some (.int .i64 52)
  c7 : w.cell? ⟨0, 7, none⟩ = some (.int .i64 12)
  c8 : w.cell? ⟨0, 8, none⟩ = some (.int .i64 4095)
theorem Env.lt {w : World} (h : Env w) : 0 < w.heap.size := World.block_lt_of_cell? _ _ h.c0
theorem Env.below {w w' : World} (h : Env w) {B : Nat} (hb : Below B w w') (hB : w.heap.size ≤ B) : Env w' := by
  have hlt := h.lt
  have k : ∀ i, w'.cell? ⟨0, i, none⟩ = w.cell? ⟨0, i, none⟩ := fun i => hb.cell (Nat.lt_of_lt_of_le hlt hB)
  exact ⟨(k 0).trans h.c0, (k 1).trans h.c1, (k 2).trans h.c2, (k 3).trans h.c3, (k 4).trans h.c4, (k 5).trans h.c5, (k 6).trans h.c6, (k 7).trans h.c7, (k 8).trans h.c8⟩
theorem Env.alloc {w : World} (h : Env w) (o : Obj) : Env (w.alloc o) := h.below ((Below.refl _ _).alloc (Nat.le_refl _) o) (Nat.le_refl _)
theorem Env.drewN {w : World} (h : Env w) (n : Nat) : Env (w.drewN n) := ⟨h.c0, h.c1, h.c2, h.c3, h.c4, h.c5, h.c6, h.c7, h.c8⟩

theorem fget_c {c k v : Int} (h : Fit c k v) (W : World) :
    Calls Tryz.prog 103 #[.int .u64 (gI c k v), .int .i64 0, .int .i64 40] W fun e w' => e = .returned (.int .u64 c) ∧ ∃ n, w' = W.drewN n := by
  have := Fld.get_yes (gI c k v) 0 40 (GatM.gI_lo h) (GatM.gI_hi h) (by omega) (by omega) (by omega) W
  unfold Fld.getI at this
  rwa [GatM.get_c h] at this
theorem fget_k {c k v : Int} (h : Fit c k v) (W : World) :
    Calls Tryz.prog 103 #[.int .u64 (gI c k v), .int .i64 40, .int .i64 12] W fun e w' => e = .returned (.int .u64 k) ∧ ∃ n, w' = W.drewN n := by
  have := Fld.get_yes (gI c k v) 40 12 (GatM.gI_lo h) (GatM.gI_hi h) (by omega) (by omega) (by omega) W
  unfold Fld.getI at this
  rwa [GatM.get_k h] at this
theorem fget_v {c k v : Int} (h : Fit c k v) (W : World) :
    Calls Tryz.prog 103 #[.int .u64 (gI c k v), .int .i64 52, .int .i64 12] W fun e w' => e = .returned (.int .u64 v) ∧ ∃ n, w' = W.drewN n := by
  have := Fld.get_yes (gI c k v) 52 12 (GatM.gI_lo h) (GatM.gI_hi h) (by omega) (by omega) (by omega) W
  unfold Fld.getI at this
  rwa [GatM.get_v h] at this
theorem fput_c {c k v n : Int} (h : Fit c k v) (h0 : 0 ≤ n) (h1 : n < 1099511627776) (W : World) :
    Calls Tryz.prog 132 #[.int .u64 (gI c k v), .int .i64 0, .int .i64 40, .int .u64 n] W fun e w' => e = .returned (.int .u64 (gI n k v)) ∧ ∃ n, w' = W.drewN n := by
  have := Fld.put_yes (gI c k v) 0 40 n (GatM.gI_lo h) (GatM.gI_hi h) h0 (by omega) (by omega) (by omega) (by omega) W
  unfold Fld.putI at this
  rwa [GatM.put_c h h0 h1] at this
theorem fput_k {c k v n : Int} (h : Fit c k v) (h0 : 0 ≤ n) (h1 : n < 4096) (W : World) :
    Calls Tryz.prog 132 #[.int .u64 (gI c k v), .int .i64 40, .int .i64 12, .int .u64 n] W fun e w' => e = .returned (.int .u64 (gI c n v)) ∧ ∃ n, w' = W.drewN n := by
  have := Fld.put_yes (gI c k v) 40 12 n (GatM.gI_lo h) (GatM.gI_hi h) h0 (by omega) (by omega) (by omega) (by omega) W
  unfold Fld.putI at this
  rwa [GatM.put_k h h0 h1] at this
theorem fput_v {c k v n : Int} (h : Fit c k v) (h0 : 0 ≤ n) (h1 : n < 4096) (W : World) :
    Calls Tryz.prog 132 #[.int .u64 (gI c k v), .int .i64 52, .int .i64 12, .int .u64 n] W fun e w' => e = .returned (.int .u64 (gI c k n)) ∧ ∃ n, w' = W.drewN n := by
  have := Fld.put_yes (gI c k v) 52 12 n (GatM.gI_lo h) (GatM.gI_hi h) h0 (by omega) (by omega) (by omega) (by omega) W
  unfold Fld.putI at this
  rwa [GatM.put_v h h0 h1] at this

set_option maxHeartbeats 1000000 in
theorem get_c {c k v : Int} (h : Fit c k v) (W : World) (he : Env W) :
    Calls Tryz.prog 89 #[.int .u64 (gI c k v), .int .i64 0] W fun e w' => e = .returned (.int .i64 c) ∧ ∃ n, w' = W.drewN n := by
  have H := Lib.hid h
  obtain ⟨b0, b1, b2, b3, b4, b5⟩ := h
  have x0 := he.c0
  have x1 := he.c1
  have hw : wrap64 c = c := IntWalk.wrap64_in _ (by omega)
  clear he b0 b1 b2 b3 b4 b5
  go_enter Tryz.func89, Tryz.ntmps89
  go_wp2_with fail
  refine region_still_tail 9 (by kernel_rfl) (by kernel_rfl) W.drew rfl ?_
  simp only [List.take_succ_cons, List.take_zero, List.drop_succ_cons, List.drop_zero]
  repeat still_step
  refine wpStill_nil ?_
  go_wp2_with (go_at_call 103; refine (fget_c H.out _).mono ?_; rintro e w' ⟨rfl, nq, rfl⟩)
  go_ret
  refine ⟨?_, 1 + nq, rfl⟩
  show Ending.returned (.int .i64 (wrap64 c)) = _
  rw [hw]
set_option maxHeartbeats 1000000 in
theorem get_k {c k v : Int} (h : Fit c k v) (W : World) (he : Env W) :
    Calls Tryz.prog 89 #[.int .u64 (gI c k v), .int .i64 1] W fun e w' => e = .returned (.int .i64 k) ∧ ∃ n, w' = W.drewN n := by
  have H := Lib.hid h
  obtain ⟨b0, b1, b2, b3, b4, b5⟩ := h
  have x0 := he.c3
  have x1 := he.c4
  have hw : wrap64 k = k := IntWalk.wrap64_in _ (by omega)
  clear he b0 b1 b2 b3 b4 b5
  go_enter Tryz.func89, Tryz.ntmps89
  go_wp2_with fail
  refine region_still_tail 9 (by kernel_rfl) (by kernel_rfl) W.drew rfl ?_
  simp only [List.take_succ_cons, List.take_zero, List.drop_succ_cons, List.drop_zero]
  repeat still_step
  refine wpStill_nil ?_
  go_wp2_with (go_at_call 103; refine (fget_k H.out _).mono ?_; rintro e w' ⟨rfl, nq, rfl⟩)
  go_ret
  refine ⟨?_, 1 + nq, rfl⟩
  show Ending.returned (.int .i64 (wrap64 k)) = _
  rw [hw]
set_option maxHeartbeats 1000000 in
theorem get_v {c k v : Int} (h : Fit c k v) (W : World) (he : Env W) :
    Calls Tryz.prog 89 #[.int .u64 (gI c k v), .int .i64 2] W fun e w' => e = .returned (.int .i64 v) ∧ ∃ n, w' = W.drewN n := by
  have H := Lib.hid h
  obtain ⟨b0, b1, b2, b3, b4, b5⟩ := h
  have x0 := he.c6
  have x1 := he.c7
  have hw : wrap64 v = v := IntWalk.wrap64_in _ (by omega)
  clear he b0 b1 b2 b3 b4 b5
  go_enter Tryz.func89, Tryz.ntmps89
  go_wp2_with fail
  refine region_still_tail 9 (by kernel_rfl) (by kernel_rfl) W.drew rfl ?_
  simp only [List.take_succ_cons, List.take_zero, List.drop_succ_cons, List.drop_zero]
  repeat still_step
  refine wpStill_nil ?_
  go_wp2_with (go_at_call 103; refine (fget_v H.out _).mono ?_; rintro e w' ⟨rfl, nq, rfl⟩)
  go_ret
  refine ⟨?_, 1 + nq, rfl⟩
  show Ending.returned (.int .i64 (wrap64 v)) = _
  rw [hw]
set_option maxHeartbeats 1000000 in
theorem put_c {c k v n : Int} (h : Fit c k v) (h0 : 0 ≤ n) (h1 : n < 1099511627776) (W : World) (he : Env W) :
    Calls Tryz.prog 91 #[.int .u64 (gI c k v), .int .i64 0, .int .i64 n] W fun e w' => e = .returned (.int .u64 (gI n k v)) ∧ ∃ n, w' = W.drewN n := by
  have H := Lib.hid h
  have H0 := Lib.hid h0
  have H1 := Lib.hid h1
  have x0 := he.c0
  have x1 := he.c1
  have hw : IntKind.u64.wrap n = n := by rw [IntKind.wrap_u64]; omega
  clear he h
  go_enter Tryz.func91, Tryz.ntmps91
  go_wp2_with fail
  refine region_still_tail 11 (by kernel_rfl) (by kernel_rfl) W.drew rfl ?_
  simp only [List.take_succ_cons, List.take_zero, List.drop_succ_cons, List.drop_zero]
  repeat still_step
  refine wpStill_nil ?_
  go_wp2_with (go_at_call 132; refine (fput_c H.out H0.out H1.out _).mono ?_; rintro e w' ⟨rfl, nq, rfl⟩)
  go_ret
  exact ⟨rfl, 1 + nq, rfl⟩
set_option maxHeartbeats 1000000 in
theorem put_k {c k v n : Int} (h : Fit c k v) (h0 : 0 ≤ n) (h1 : n < 4096) (W : World) (he : Env W) :
    Calls Tryz.prog 91 #[.int .u64 (gI c k v), .int .i64 1, .int .i64 n] W fun e w' => e = .returned (.int .u64 (gI c n v)) ∧ ∃ n, w' = W.drewN n := by
  have H := Lib.hid h
  have H0 := Lib.hid h0
  have H1 := Lib.hid h1
  have x0 := he.c3
  have x1 := he.c4
  have hw : IntKind.u64.wrap n = n := by rw [IntKind.wrap_u64]; omega
  clear he h
  go_enter Tryz.func91, Tryz.ntmps91
  go_wp2_with fail
  refine region_still_tail 11 (by kernel_rfl) (by kernel_rfl) W.drew rfl ?_
  simp only [List.take_succ_cons, List.take_zero, List.drop_succ_cons, List.drop_zero]
  repeat still_step
  refine wpStill_nil ?_
  go_wp2_with (go_at_call 132; refine (fput_k H.out H0.out H1.out _).mono ?_; rintro e w' ⟨rfl, nq, rfl⟩)
  go_ret
  exact ⟨rfl, 1 + nq, rfl⟩
set_option maxHeartbeats 1000000 in
theorem put_v {c k v n : Int} (h : Fit c k v) (h0 : 0 ≤ n) (h1 : n < 4096) (W : World) (he : Env W) :
    Calls Tryz.prog 91 #[.int .u64 (gI c k v), .int .i64 2, .int .i64 n] W fun e w' => e = .returned (.int .u64 (gI c k n)) ∧ ∃ n, w' = W.drewN n := by
  have H := Lib.hid h
  have H0 := Lib.hid h0
  have H1 := Lib.hid h1
  have x0 := he.c6
  have x1 := he.c7
  have hw : IntKind.u64.wrap n = n := by rw [IntKind.wrap_u64]; omega
  clear he h
  go_enter Tryz.func91, Tryz.ntmps91
  go_wp2_with fail
  refine region_still_tail 11 (by kernel_rfl) (by kernel_rfl) W.drew rfl ?_
  simp only [List.take_succ_cons, List.take_zero, List.drop_succ_cons, List.drop_zero]
  repeat still_step
  refine wpStill_nil ?_
  go_wp2_with (go_at_call 132; refine (fput_v H.out H0.out H1.out _).mono ?_; rintro e w' ⟨rfl, nq, rfl⟩)
  go_ret
  exact ⟨rfl, 1 + nq, rfl⟩
end Ga
end Go.Proofs.YtcjppfggllbbeaaGreatDoor
/- Layer 14: the contracts of gate.increase, Tick, Enter, Leave and Swap. -/
set_option linter.unusedVariables false
set_option linter.unusedSimpArgs false
set_option maxRecDepth 100000
namespace Go.Proofs.YtcjppfggllbbeaaGreatDoor
open Go.ChangeShapes Go.WideShapes Go.ChangeAt Go.RowKit Go.Mtl
namespace Ga
open GatM (gI Fit)

set_option maxHeartbeats 1000000 in
theorem inc_k_no {c k v : Int} (h : Fit c k v) (hm : k = 4095) (W : World) (he : Env W) :
    Calls Tryz.prog 90 #[.int .u64 (gI c k v), .int .i64 1] W fun e w' => e = .returned (.tuple #[.int .u64 (gI c k v), .bool false]) ∧ ∃ n, w' = W.drewN n := by
  have H := Lib.hid h
  have HE := Lib.hid he
  have x0 := he.c5
  have hd : (k == (4095 : Int)) = true := by rw [hm]; rfl
  clear he h hm
  go_enter Tryz.func90, Tryz.ntmps90
  go_wp2_with (go_at_call 89; refine (get_k H.out _ HE.out).mono ?_; rintro e w' ⟨rfl, nq, rfl⟩)
  go_ret2
  exact ⟨rfl, nq, rfl⟩
set_option maxHeartbeats 1000000 in
theorem inc_k_yes {c k v : Int} (h : Fit c k v) (hm : k ≠ 4095) (W : World) (he : Env W) :
    Calls Tryz.prog 90 #[.int .u64 (gI c k v), .int .i64 1] W fun e w' => e = .returned (.tuple #[.int .u64 (gI c (k + 1) v), .bool true]) ∧ ∃ n, w' = W.drewN n := by
  have H := Lib.hid h
  have HE := Lib.hid he
  have x0 := he.c5
  have hd : (k == (4095 : Int)) = false := by simpa using hm
  obtain ⟨b0, b1, b2, b3, b4, b5⟩ := h
  have hw : wrap64 (k + 1) = k + 1 := IntWalk.wrap64_in _ (by omega)
  have H0 : Hid (0 ≤ k + 1 ∧ k + 1 < 4096) := by show _ ∧ _; omega
  clear he hm b0 b1 b2 b3 b4 b5
  go_enter Tryz.func90, Tryz.ntmps90
  go_wp2_with (go_at_call 89; refine (get_k H.out _ HE.out).mono ?_; rintro e w' ⟨rfl, nq, rfl⟩)
  go_at_call 91
  refine (put_k H.out H0.out.1 H0.out.2 _ (HE.out.drewN nq)).mono ?_
  rintro e w' ⟨rfl, nr, rfl⟩
  go_wp2_with fail
  go_ret2
  exact ⟨rfl, nq + nr, rfl⟩
set_option maxHeartbeats 1000000 in
theorem inc_v_no {c k v : Int} (h : Fit c k v) (hm : v = 4095) (W : World) (he : Env W) :
    Calls Tryz.prog 90 #[.int .u64 (gI c k v), .int .i64 2] W fun e w' => e = .returned (.tuple #[.int .u64 (gI c k v), .bool false]) ∧ ∃ n, w' = W.drewN n := by
  have H := Lib.hid h
  have HE := Lib.hid he
  have x0 := he.c8
  have hd : (v == (4095 : Int)) = true := by rw [hm]; rfl
  clear he h hm
  go_enter Tryz.func90, Tryz.ntmps90
  go_wp2_with (go_at_call 89; refine (get_v H.out _ HE.out).mono ?_; rintro e w' ⟨rfl, nq, rfl⟩)
  go_ret2
  exact ⟨rfl, nq, rfl⟩
set_option maxHeartbeats 1000000 in
theorem inc_v_yes {c k v : Int} (h : Fit c k v) (hm : v ≠ 4095) (W : World) (he : Env W) :
    Calls Tryz.prog 90 #[.int .u64 (gI c k v), .int .i64 2] W fun e w' => e = .returned (.tuple #[.int .u64 (gI c k (v + 1)), .bool true]) ∧ ∃ n, w' = W.drewN n := by
  have H := Lib.hid h
  have HE := Lib.hid he
  have x0 := he.c8
  have hd : (v == (4095 : Int)) = false := by simpa using hm
  obtain ⟨b0, b1, b2, b3, b4, b5⟩ := h
  have hw : wrap64 (v + 1) = v + 1 := IntWalk.wrap64_in _ (by omega)
  have H0 : Hid (0 ≤ v + 1 ∧ v + 1 < 4096) := by show _ ∧ _; omega
  clear he hm b0 b1 b2 b3 b4 b5
  go_enter Tryz.func90, Tryz.ntmps90
  go_wp2_with (go_at_call 89; refine (get_v H.out _ HE.out).mono ?_; rintro e w' ⟨rfl, nq, rfl⟩)
  go_at_call 91
  refine (put_v H.out H0.out.1 H0.out.2 _ (HE.out.drewN nq)).mono ?_
  rintro e w' ⟨rfl, nr, rfl⟩
  go_wp2_with fail
  go_ret2
  exact ⟨rfl, nq + nr, rfl⟩

set_option maxHeartbeats 1000000 in
theorem swap_no {c k v : Int} (h : Fit c k v) (hm : v = 4095) (W : World) (he : Env W) :
    Calls Tryz.prog 53 #[.int .u64 (gI c k v)] W fun e w' => e = .returned (.tuple #[.int .u64 (gI c k v), .bool false]) ∧ ∃ n, w' = W.drewN n := by
  have H := Lib.hid (inc_v_no h hm W he)
  clear h hm he
  go_enter Tryz.func53, Tryz.ntmps53
  go_wp2_with (go_at_call 90; refine H.out.mono ?_; rintro e w' ⟨rfl, nq, rfl⟩)
  go_ret2
  exact ⟨rfl, nq, rfl⟩
set_option maxHeartbeats 1000000 in
theorem swap_yes {c k v : Int} (h : Fit c k v) (hm : v ≠ 4095) (W : World) (he : Env W) :
    Calls Tryz.prog 53 #[.int .u64 (gI c k v)] W fun e w' => e = .returned (.tuple #[.int .u64 (gI c k (v + 1)), .bool true]) ∧ ∃ n, w' = W.drewN n := by
  have H := Lib.hid (inc_v_yes h hm W he)
  clear h hm he
  go_enter Tryz.func53, Tryz.ntmps53
  go_wp2_with (go_at_call 90; refine H.out.mono ?_; rintro e w' ⟨rfl, nq, rfl⟩)
  go_ret2
  exact ⟨rfl, nq, rfl⟩

set_option maxHeartbeats 1000000 in
theorem leave_no {c k v : Int} (h : Fit c k v) (hm : k = 0) (W : World) (he : Env W) :
    Calls Tryz.prog 55 #[.int .u64 (gI c k v)] W fun e w' => e = .returned (.tuple #[.int .u64 (gI c k v), .bool false]) ∧ ∃ n, w' = W.drewN n := by
  have H := Lib.hid h
  have HE := Lib.hid he
  have hd : (k == (0 : Int)) = true := by rw [hm]; rfl
  clear he h hm
  go_enter Tryz.func55, Tryz.ntmps55
  go_wp2_with (go_at_call 89; refine (get_k H.out _ HE.out).mono ?_; rintro e w' ⟨rfl, nq, rfl⟩)
  go_ret2
  exact ⟨rfl, nq, rfl⟩
set_option maxHeartbeats 1000000 in
theorem leave_yes {c k v : Int} (h : Fit c k v) (hm : k ≠ 0) (W : World) (he : Env W) :
    Calls Tryz.prog 55 #[.int .u64 (gI c k v)] W fun e w' => e = .returned (.tuple #[.int .u64 (gI c (k - 1) v), .bool true]) ∧ ∃ n, w' = W.drewN n := by
  have H := Lib.hid h
  have HE := Lib.hid he
  have hd : (k == (0 : Int)) = false := by simpa using hm
  obtain ⟨b0, b1, b2, b3, b4, b5⟩ := h
  have hw : wrap64 (k - 1) = k - 1 := IntWalk.wrap64_in _ (by omega)
  have H0 : Hid (0 ≤ k - 1 ∧ k - 1 < 4096) := by show _ ∧ _; omega
  clear he hm b0 b1 b2 b3 b4 b5
  go_enter Tryz.func55, Tryz.ntmps55
  go_wp2_with (go_at_call 89; refine (get_k H.out _ HE.out).mono ?_; rintro e w' ⟨rfl, nq, rfl⟩)
  go_at_call 91
  refine (put_k H.out H0.out.1 H0.out.2 _ (HE.out.drewN nq)).mono ?_
  rintro e w' ⟨rfl, nr, rfl⟩
  go_wp2_with fail
  go_ret2
  exact ⟨rfl, nq + nr, rfl⟩

set_option maxHeartbeats 1000000 in
theorem enter_full {c k v l : Int} (h : Fit c k v) (hm : l ≤ k) (W : World) (he : Env W) :
    Calls Tryz.prog 88 #[.int .u64 (gI c k v), .int .i64 l] W fun e w' => e = .returned (.tuple #[.int .u64 (gI c k v), .bool false]) ∧ ∃ n, w' = W.drewN n := by
  have H := Lib.hid h
  have HE := Lib.hid he
  have hd : decide (k ≥ l) = true := by simpa using hm
  clear he h
  go_enter Tryz.func88, Tryz.ntmps88
  go_wp2_with (go_at_call 89; refine (get_k H.out _ HE.out).mono ?_; rintro e w' ⟨rfl, nq, rfl⟩)
  go_ret2
  exact ⟨rfl, nq, rfl⟩
set_option maxHeartbeats 1000000 in
theorem enter_top {c k v l : Int} (h : Fit c k v) (hm : ¬ l ≤ k) (hk : k = 4095) (W : World) (he : Env W) :
    Calls Tryz.prog 88 #[.int .u64 (gI c k v), .int .i64 l] W fun e w' => e = .returned (.tuple #[.int .u64 (gI c k v), .bool false]) ∧ ∃ n, w' = W.drewN n := by
  have H := Lib.hid h
  have HE := Lib.hid he
  have HK := Lib.hid hk
  clear he h hk
  go_enter Tryz.func88, Tryz.ntmps88
  go_wp2_with (go_at_call 89; refine (get_k H.out _ HE.out).mono ?_; rintro e w' ⟨rfl, nq, rfl⟩)
  go_at_call 90
  refine (inc_k_no H.out HK.out _ (HE.out.drewN nq)).mono ?_
  rintro e w' ⟨rfl, nr, rfl⟩
  go_wp2_with fail
  go_ret2
  exact ⟨rfl, nq + nr, rfl⟩
set_option maxHeartbeats 1000000 in
theorem enter_yes {c k v l : Int} (h : Fit c k v) (hm : ¬ l ≤ k) (hk : k ≠ 4095) (W : World) (he : Env W) :
    Calls Tryz.prog 88 #[.int .u64 (gI c k v), .int .i64 l] W fun e w' => e = .returned (.tuple #[.int .u64 (gI c (k + 1) v), .bool true]) ∧ ∃ n, w' = W.drewN n := by
  have H := Lib.hid h
  have HE := Lib.hid he
  have HK := Lib.hid hk
  clear he h hk
  go_enter Tryz.func88, Tryz.ntmps88
  go_wp2_with (go_at_call 89; refine (get_k H.out _ HE.out).mono ?_; rintro e w' ⟨rfl, nq, rfl⟩)
  go_at_call 90
  refine (inc_k_yes H.out HK.out _ (HE.out.drewN nq)).mono ?_
  rintro e w' ⟨rfl, nr, rfl⟩
  go_wp2_with fail
  go_ret2
  exact ⟨rfl, nq + nr, rfl⟩

/-- The clock behind n ticks. -/
def later (c n : Int) : Int := if n ≤ 0 then c else if 1099511627775 < c + n then 1099511627775 else c + n
theorem later_fit {c k v n : Int} (h : Fit c k v) : 0 ≤ later c n ∧ later c n < 1099511627776 ∧ c ≤ later c n := by
  obtain ⟨_, _, _, _, _, _⟩ := h; unfold later
  split
  · omega
  · split <;> omega
theorem put_cx {c k v x : Int} (m : Int) (h : Fit c k v) (hx : x = m) (h0 : 0 ≤ m) (h1 : m < 1099511627776) (W : World) (he : Env W) :
    Calls Tryz.prog 91 #[.int .u64 (gI c k v), .int .i64 0, .int .i64 x] W fun e w' => e = .returned (.int .u64 (gI m k v)) ∧ ∃ n, w' = W.drewN n := by
  subst hx; exact put_c h h0 h1 W he
set_option maxHeartbeats 1000000 in
theorem tick_any {c k v n : Int} (h : Fit c k v) (hn0 : -9223372036854775808 ≤ n) (hn1 : n ≤ 9223372036854775807) (W : World) (he : Env W) :
    Calls Tryz.prog 54 #[.int .u64 (gI c k v), .int .i64 n] W fun e w' => e = .returned (.int .u64 (gI (later c n) k v)) ∧ ∃ n, w' = W.drewN n := by
  have H := Lib.hid h
  have HE := Lib.hid he
  have x2 := he.c2
  have HL := Lib.hid (later_fit (n := n) h)
  obtain ⟨b0, b1, b2, b3, b4, b5⟩ := h
  have hw : wrap64 (1099511627775 - c) = 1099511627775 - c := IntWalk.wrap64_in _ (by omega)
  clear he
  go_enter Tryz.func54, Tryz.ntmps54
  go_wp2_with (go_at_call 89; refine (get_c H.out _ HE.out).mono ?_; rintro e w' ⟨rfl, nq, rfl⟩)
  all_goals go_at_call 91
  all_goals refine (put_cx (later c n) H.out ?_ HL.out.1 HL.out.2.1 _ (HE.out.drewN nq)).mono ?_
  all_goals first | (show _ = later c n; unfold later; split <;> (try split) <;> omega) | skip
  all_goals rintro e w' ⟨rfl, nr, rfl⟩
  all_goals go_wp2_with fail
  all_goals go_ret
  all_goals exact ⟨rfl, nq + nr, rfl⟩
end Ga
end Go.Proofs.YtcjppfggllbbeaaGreatDoor
/- Layer 14: the contracts of gate.Pack and gate.Unpack. -/
set_option linter.unusedVariables false
set_option linter.unusedSimpArgs false
set_option maxRecDepth 100000
namespace Go.Proofs.YtcjppfggllbbeaaGreatDoor
open Go.ChangeShapes Go.WideShapes Go.ChangeAt Go.RowKit Go.Mtl
namespace Ga
open GatM (gI Fit)
/-- A gate's three cells. -/
abbrev gtc (v k c : Int) : Array Value := #[.int .i64 v, .int .i64 k, .int .i64 c]
section
variable {w w' : World} {g : Nat} {v k c : Int} {t : TypeId}
theorem gt_cells (H : Blk w g (gtc v k c) t) : w.cell? ⟨g, 0, none⟩ = some (.int .i64 v) ∧ w.cell? ⟨g, 1, none⟩ = some (.int .i64 k) ∧ w.cell? ⟨g, 2, none⟩ = some (.int .i64 c) := by
  refine ⟨?_, ?_, ?_⟩ <;> exact H.cell _ _ rfl
theorem gt_frozen (H : Blk w g (gtc v k c) t) : w.frozen? ⟨g, 0, none⟩ = false ∧ w.frozen? ⟨g, 1, none⟩ = false ∧ w.frozen? ⟨g, 2, none⟩ = false := by
  refine ⟨?_, ?_, ?_⟩ <;> exact H.frozen _
abbrev storeG (w : World) (g : Nat) (v k c : Int) : World := ((w.setCell ⟨g, 0, none⟩ (.int .i64 v)).setCell ⟨g, 1, none⟩ (.int .i64 k)).setCell ⟨g, 2, none⟩ (.int .i64 c)
theorem gt_store (H : Blk w g (gtc v k c) t) (v' k' c' : Int) : Blk (storeG w g v' k' c') g (gtc v' k' c') t := by
  have h0 := H.set' 0 (.int .i64 v') (cs' := gtc v' k c) rfl
  have h1 := h0.set' 1 (.int .i64 k') (cs' := gtc v' k' c) rfl
  exact h1.set' 2 (.int .i64 c') rfl
theorem storeG_other {cs : Array Value} {n : Nat} (H : Blk w g cs t) (hk : g ≠ n) (a b d : Int) : Blk (storeG w n a b d) g cs t := ((H.other n 0 hk _).other n 1 hk _).other n 2 hk _
theorem below_storeG {B : Nat} {w0 : World} (hb : Below B w0 w) (hg : B ≤ g) (a b d : Int) : Below B w0 (storeG w g a b d) :=
  ((hb.setCell (p := ⟨g, 0, none⟩) hg _).setCell (p := ⟨g, 1, none⟩) hg _).setCell (p := ⟨g, 2, none⟩) hg _
end

set_option maxHeartbeats 1000000 in
theorem unpack_any {c k v : Int} (h : Fit c k v) (W : World) (he : Env W) :
    Calls Tryz.prog 52 #[.int .u64 (gI c k v)] W fun e w' => e = .returned (.agg (gtc v k c)) ∧ Below W.heap.size W w' := by
  have H := Lib.hid h
  have HE := Lib.hid (he.alloc (.cells (gtc 0 0 0) 64))
  have HX := Lib.hid (Blk.box W (gtc 0 0 0) 64)
  have HB := Lib.hid ((Below.refl _ W).alloc (Nat.le_refl _) (.cells (gtc 0 0 0) 64))
  clear he h
  go_enter Tryz.func52, Tryz.ntmps52
  go_wp2_with fail
  go_at_call 89
  refine (get_v H.out _ HE.out).mono ?_
  rintro e w' ⟨rfl, n1, rfl⟩
  go_wp2_with fail
  go_at_call 89
  refine (get_k H.out _ (HE.out.drewN n1)).mono ?_
  rintro e w' ⟨rfl, n2, rfl⟩
  go_wp2_with fail
  go_at_call 89
  refine (get_c H.out _ (HE.out.drewN (n1 + n2))).mono ?_
  rintro e w' ⟨rfl, n3, rfl⟩
  have f0 := (HX.out.drewN (n1 + n2 + n3)).frozen 0
  have f1 := (HX.out.drewN (n1 + n2 + n3)).frozen 1
  have f2 := (HX.out.drewN (n1 + n2 + n3)).frozen 2
  obtain ⟨y0, y1, y2⟩ := gt_cells (HX.out.drewN (n1 + n2 + n3))
  go_wp2_with fail
  have HR := gt_store (HX.out.drewN (n1 + n2 + n3)) v k c
  obtain ⟨r0, r1, r2⟩ := gt_cells HR
  exact bodyPost_ret (v := .agg (gtc v k c)) (by simp [results, Tryz.results52, go_sem, r0, r1, r2]) rfl ⟨rfl, below_storeG (HB.out.drews _) (by simp) _ _ _⟩

/-- Ahead of round j of Pack: the word so far, and what fits. -/
def St (c k v : Int) (j : Nat) (x : Int) : Prop := j = 0 ∧ x = gI 0 0 0 ∨ j = 1 ∧ (0 ≤ c ∧ c < 1099511627776) ∧ x = gI c 0 0 ∨ j = 2 ∧ (0 ≤ c ∧ c < 1099511627776) ∧ (0 ≤ k ∧ k < 4096) ∧ x = gI c k 0 ∨ j = 3 ∧ (0 ≤ c ∧ c < 1099511627776) ∧ (0 ≤ k ∧ k < 4096) ∧ (0 ≤ v ∧ v < 4096) ∧ x = gI c k v
theorem gI_zero : (0 : Int) = gI 0 0 0 := by unfold gI; rfl
/-- What Pack returns. -/
def PV (c k v : Int) (V : Value) : Prop := (Fit c k v → V = .tuple #[.int .u64 (gI c k v), .int .i64 0]) ∧ (¬ Fit c k v → V = .tuple #[.int .u64 0, .int .i64 1])
theorem PV_is (c k v : Int) : ∃ V, PV c k v V := by
  by_cases h : Fit c k v
  · exact ⟨_, fun _ => rfl, fun h' => absurd h h'⟩
  · exact ⟨_, fun h' => absurd h' h, fun _ => rfl⟩
end Ga
end Go.Proofs.YtcjppfggllbbeaaGreatDoor
/- Layer 14: the contracts of the reference's functions. -/
set_option linter.unusedVariables false
set_option linter.unusedSimpArgs false
set_option maxRecDepth 100000
namespace Go.Proofs.YtcjppfggllbbeaaGreatDoor
open Go.ChangeShapes Go.WideShapes Go.ChangeAt Go.RowKit Go.Mtl
namespace Ga
open GatM (gI Fit)

theorem ref_word (c k v : Int) (h : Fit c k v) : IntKind.u64.wrap (IntKind.u64.wrap (IntKind.u64.wrap (IntKind.u64.wrap (IntKind.u64.wrap v * 4096) + IntKind.u64.wrap k) * 1099511627776) + IntKind.u64.wrap c) = gI c k v := by
  obtain ⟨_, _, _, _, _, _⟩ := h
  simp only [IntKind.wrap_u64]
  unfold gI
  omega
set_option maxHeartbeats 4000000 in
theorem refPack_any (c k v : Int) (V : Value) (hV : PV c k v V) (W : World) :
    Calls Tryz.prog 96 #[.agg (gtc v k c)] W fun e w' => e = .returned V ∧ Below W.heap.size W w' := by
  have HV := Lib.hid hV
  have HX := Lib.hid (Blk.box W (gtc v k c) 64)
  have HB := Lib.hid ((Below.refl _ W).alloc (Nat.le_refl _) (.cells (gtc v k c) 64))
  obtain ⟨x0, x1, x2⟩ := gt_cells HX.out
  clear hV
  by_cases h0 : c < 0
  · have d0 : decide (c < 0) = true := by simpa using h0
    have FN : Hid (V = .tuple #[.int .u64 0, .int .i64 1]) := HV.out.2 (fun h => by have := h.c0; omega)
    clear h0
    go_enter Tryz.func96, Tryz.ntmps96
    go_wp2_with fail
    go_ret2
    exact ⟨by rw [FN.out]; rfl, HB.out⟩
  have d0 : decide (c < 0) = false := by simpa using h0
  by_cases h1 : c ≥ 1099511627776
  · have d1 : decide (c ≥ 1099511627776) = true := by simpa using h1
    have FN : Hid (V = .tuple #[.int .u64 0, .int .i64 1]) := HV.out.2 (fun h => by have := h.c1; omega)
    clear h1
    go_enter Tryz.func96, Tryz.ntmps96
    go_wp2_with fail
    go_ret2
    exact ⟨by rw [FN.out]; rfl, HB.out⟩
  have d1 : decide (c ≥ 1099511627776) = false := by simpa using h1
  by_cases h2 : k < 0
  · have d2 : decide (k < 0) = true := by simpa using h2
    have FN : Hid (V = .tuple #[.int .u64 0, .int .i64 1]) := HV.out.2 (fun h => by have := h.k0; omega)
    clear h2
    go_enter Tryz.func96, Tryz.ntmps96
    go_wp2_with fail
    go_ret2
    exact ⟨by rw [FN.out]; rfl, HB.out⟩
  have d2 : decide (k < 0) = false := by simpa using h2
  by_cases h3 : k > 4095
  · have d3 : decide (k > 4095) = true := by simpa using h3
    have FN : Hid (V = .tuple #[.int .u64 0, .int .i64 1]) := HV.out.2 (fun h => by have := h.k1; omega)
    clear h3
    go_enter Tryz.func96, Tryz.ntmps96
    go_wp2_with fail
    go_ret2
    exact ⟨by rw [FN.out]; rfl, HB.out⟩
  have d3 : decide (k > 4095) = false := by simpa using h3
  by_cases h4 : v < 0
  · have d4 : decide (v < 0) = true := by simpa using h4
    have FN : Hid (V = .tuple #[.int .u64 0, .int .i64 1]) := HV.out.2 (fun h => by have := h.v0; omega)
    clear h4
    go_enter Tryz.func96, Tryz.ntmps96
    go_wp2_with fail
    go_ret2
    exact ⟨by rw [FN.out]; rfl, HB.out⟩
  have d4 : decide (v < 0) = false := by simpa using h4
  by_cases h5 : v > 4095
  · have d5 : decide (v > 4095) = true := by simpa using h5
    have FN : Hid (V = .tuple #[.int .u64 0, .int .i64 1]) := HV.out.2 (fun h => by have := h.v1; omega)
    clear h5
    go_enter Tryz.func96, Tryz.ntmps96
    go_wp2_with fail
    go_ret2
    exact ⟨by rw [FN.out]; rfl, HB.out⟩
  have d5 : decide (v > 4095) = false := by simpa using h5
  have hf : Fit c k v := ⟨by omega, by omega, by omega, by omega, by omega, by omega⟩
  have FN : Hid (V = .tuple #[.int .u64 (gI c k v), .int .i64 0]) := HV.out.1 hf
  have HW := Lib.hid (ref_word c k v hf)
  clear h0 h1 h2 h3 h4 h5 hf
  go_enter Tryz.func96, Tryz.ntmps96
  go_wp2_with fail
  go_ret2
  exact ⟨by rw [FN.out, ← HW.out]; rfl, HB.out⟩

theorem quo_v {c k v : Int} (h : Fit c k v) : gI c k v / 4503599627370496 = v := by obtain ⟨_, _, _, _, _, _⟩ := h; unfold gI; omega
theorem quo_k {c k v : Int} (h : Fit c k v) : gI c k v / 1099511627776 % 4096 = k := by obtain ⟨_, _, _, _, _, _⟩ := h; unfold gI; omega
theorem quo_c {c k v : Int} (h : Fit c k v) : gI c k v % 1099511627776 = c := by obtain ⟨_, _, _, _, _, _⟩ := h; unfold gI; omega
set_option maxHeartbeats 1000000 in
theorem refUnpack_any {c k v : Int} (h : Fit c k v) (W : World) :
    Calls Tryz.prog 39 #[.int .u64 (gI c k v)] W fun e w' => e = .returned (.agg (gtc v k c)) ∧ Below W.heap.size W w' := by
  have HX := Lib.hid (Blk.box W (gtc 0 0 0) 64)
  have HB := Lib.hid ((Below.refl _ W).alloc (Nat.le_refl _) (.cells (gtc 0 0 0) 64))
  have f0 := HX.out.frozen 0
  have f1 := HX.out.frozen 1
  have f2 := HX.out.frozen 2
  obtain ⟨y0, y1, y2⟩ := gt_cells HX.out
  have q0 := quo_c h
  have q1 := quo_k h
  have q2 := quo_v h
  have b0 := GatM.gI_lo h
  have b1 := GatM.gI_hi h
  obtain ⟨z0, z1, z2, z3, z4, z5⟩ := h
  go_enter Tryz.func39, Tryz.ntmps39
  go_wp2_with fail
  obtain ⟨r0, r1, r2⟩ := gt_cells (Blk.box W (gtc v k c) 64)
  exact bodyPost_ret (v := .agg (gtc v k c)) (by simp [results, Tryz.results39, go_sem, r0, r1, r2]) rfl ⟨rfl, (Below.refl _ W).alloc (Nat.le_refl _) _⟩

set_option maxHeartbeats 1000000 in
theorem with_any {c k v : Int} (h : Fit c k v) (W : World) :
    Calls Tryz.prog 62 #[.agg (gtc v k c)] W fun e w' => e = .returned (.int .u64 (gI c k v)) ∧ Below W.heap.size W w' := by
  have HX := Lib.hid (Blk.box W (gtc v k c) 64)
  have HB := Lib.hid ((Below.refl _ W).alloc (Nat.le_refl _) (.cells (gtc v k c) 64))
  obtain ⟨y0, y1, y2⟩ := gt_cells HX.out
  have HP := Lib.hid (refPack_any c k v _ ⟨fun _ => rfl, fun h' => absurd h h'⟩)
  clear h
  go_enter Tryz.func62, Tryz.ntmps62
  go_wp2_with fail
  go_at_call 96
  refine (HP.out _).mono ?_
  rintro e w' ⟨rfl, hb⟩
  go_wp2_with fail
  go_ret
  exact ⟨rfl, HB.out.trans (hb.mono (by simp))⟩

set_option maxHeartbeats 1000000 in
theorem refSwap_no {c k v : Int} (h : Fit c k v) (hm : v = 4095) (W : World) :
    Calls Tryz.prog 63 #[.int .u64 (gI c k v)] W fun e w' => e = .returned (.tuple #[.int .u64 (gI c k v), .bool false]) ∧ Below W.heap.size W w' := by
  have H := Lib.hid h
  have hd : (v == (4095 : Int)) = true := by rw [hm]; rfl
  clear hm h
  go_enter Tryz.func63, Tryz.ntmps63
  go_wp2_with fail
  go_at_call 39
  refine (refUnpack_any H.out _).mono ?_
  rintro e w1 ⟨rfl, hb⟩
  have HB := Lib.hid hb
  clear hb
  go_wp2_with fail
  go_ret2
  exact ⟨rfl, HB.out.alloc HB.out.size _⟩
set_option maxHeartbeats 1000000 in
theorem refSwap_yes {c k v : Int} (h : Fit c k v) (hm : v ≠ 4095) (W : World) :
    Calls Tryz.prog 63 #[.int .u64 (gI c k v)] W fun e w' => e = .returned (.tuple #[.int .u64 (gI c k (v + 1)), .bool true]) ∧ Below W.heap.size W w' := by
  have H := Lib.hid h
  have hd : (v == (4095 : Int)) = false := by simpa using hm
  obtain ⟨b0, b1, b2, b3, b4, b5⟩ := h
  have HN : Hid (Fit c k (v + 1)) := ⟨by omega, by omega, by omega, by omega, by omega, by omega⟩
  have HW := Lib.hid (with_any HN.out)
  have hw := IntWalk.wrap64_in (v + 1) (by omega)
  clear hm b0 b1 b2 b3 b4 b5
  go_enter Tryz.func63, Tryz.ntmps63
  go_wp2_with fail
  go_at_call 39
  refine (refUnpack_any H.out _).mono ?_
  rintro e w1 ⟨rfl, hb⟩
  have HB := Lib.hid hb
  clear hb
  go_wp2_with fail
  go_at_call 62
  refine (HW.out _).mono ?_
  rintro e w2 ⟨rfl, hb⟩
  have HB2 := Lib.hid (((Below.refl _ w1).alloc (Nat.le_refl _) _).trans (hb.mono (by simp)))
  clear hb
  go_wp2_with fail
  go_ret2
  exact ⟨rfl, HB.out.trans (HB2.out.mono HB.out.size)⟩
set_option maxHeartbeats 1000000 in
theorem refLeave_no {c k v : Int} (h : Fit c k v) (hm : k = 0) (W : World) :
    Calls Tryz.prog 66 #[.int .u64 (gI c k v)] W fun e w' => e = .returned (.tuple #[.int .u64 (gI c k v), .bool false]) ∧ Below W.heap.size W w' := by
  have H := Lib.hid h
  have hd : (k == (0 : Int)) = true := by rw [hm]; rfl
  clear hm h
  go_enter Tryz.func66, Tryz.ntmps66
  go_wp2_with fail
  go_at_call 39
  refine (refUnpack_any H.out _).mono ?_
  rintro e w1 ⟨rfl, hb⟩
  have HB := Lib.hid hb
  clear hb
  go_wp2_with fail
  go_ret2
  exact ⟨rfl, HB.out.alloc HB.out.size _⟩
set_option maxHeartbeats 1000000 in
theorem refLeave_yes {c k v : Int} (h : Fit c k v) (hm : k ≠ 0) (W : World) :
    Calls Tryz.prog 66 #[.int .u64 (gI c k v)] W fun e w' => e = .returned (.tuple #[.int .u64 (gI c (k - 1) v), .bool true]) ∧ Below W.heap.size W w' := by
  have H := Lib.hid h
  have hd : (k == (0 : Int)) = false := by simpa using hm
  obtain ⟨b0, b1, b2, b3, b4, b5⟩ := h
  have HN : Hid (Fit c (k - 1) v) := ⟨by omega, by omega, by omega, by omega, by omega, by omega⟩
  have HW := Lib.hid (with_any HN.out)
  have hw := IntWalk.wrap64_in (k - 1) (by omega)
  clear hm b0 b1 b2 b3 b4 b5
  go_enter Tryz.func66, Tryz.ntmps66
  go_wp2_with fail
  go_at_call 39
  refine (refUnpack_any H.out _).mono ?_
  rintro e w1 ⟨rfl, hb⟩
  have HB := Lib.hid hb
  clear hb
  go_wp2_with fail
  go_at_call 62
  refine (HW.out _).mono ?_
  rintro e w2 ⟨rfl, hb⟩
  have HB2 := Lib.hid (((Below.refl _ w1).alloc (Nat.le_refl _) _).trans (hb.mono (by simp)))
  clear hb
  go_wp2_with fail
  go_ret2
  exact ⟨rfl, HB.out.trans (HB2.out.mono HB.out.size)⟩
set_option maxHeartbeats 1000000 in
theorem refEnter_full {c k v l : Int} (h : Fit c k v) (hm : l ≤ k) (W : World) :
    Calls Tryz.prog 73 #[.int .u64 (gI c k v), .int .i64 l] W fun e w' => e = .returned (.tuple #[.int .u64 (gI c k v), .bool false]) ∧ Below W.heap.size W w' := by
  have H := Lib.hid h
  have hd : decide (k ≥ l) = true := by simpa using hm
  clear hd h
  go_enter Tryz.func73, Tryz.ntmps73
  go_wp2_with fail
  go_at_call 39
  refine (refUnpack_any H.out _).mono ?_
  rintro e w1 ⟨rfl, hb⟩
  have HB := Lib.hid hb
  clear hb
  go_wp2_with fail
  go_ret2
  exact ⟨rfl, HB.out.alloc HB.out.size _⟩
set_option maxHeartbeats 1000000 in
theorem refEnter_top {c k v l : Int} (h : Fit c k v) (hm : ¬ l ≤ k) (hk : k = 4095) (W : World) :
    Calls Tryz.prog 73 #[.int .u64 (gI c k v), .int .i64 l] W fun e w' => e = .returned (.tuple #[.int .u64 (gI c k v), .bool false]) ∧ Below W.heap.size W w' := by
  have H := Lib.hid h
  have hd : decide (k ≥ l) = false := by simpa using hm
  have hd2 : (k == (4095 : Int)) = true := by rw [hk]; rfl
  clear hk h
  go_enter Tryz.func73, Tryz.ntmps73
  go_wp2_with fail
  go_at_call 39
  refine (refUnpack_any H.out _).mono ?_
  rintro e w1 ⟨rfl, hb⟩
  have HB := Lib.hid hb
  clear hb
  go_wp2_with fail
  go_ret2
  exact ⟨rfl, HB.out.alloc HB.out.size _⟩
set_option maxHeartbeats 1000000 in
theorem refEnter_yes {c k v l : Int} (h : Fit c k v) (hm : ¬ l ≤ k) (hk : k ≠ 4095) (W : World) :
    Calls Tryz.prog 73 #[.int .u64 (gI c k v), .int .i64 l] W fun e w' => e = .returned (.tuple #[.int .u64 (gI c (k + 1) v), .bool true]) ∧ Below W.heap.size W w' := by
  have H := Lib.hid h
  have hd : decide (k ≥ l) = false := by simpa using hm
  have hd2 : (k == (4095 : Int)) = false := by simpa using hk
  obtain ⟨b0, b1, b2, b3, b4, b5⟩ := h
  have HN : Hid (Fit c (k + 1) v) := ⟨by omega, by omega, by omega, by omega, by omega, by omega⟩
  have HW := Lib.hid (with_any HN.out)
  have hw := IntWalk.wrap64_in (k + 1) (by omega)
  clear hk b0 b1 b2 b3 b4 b5
  go_enter Tryz.func73, Tryz.ntmps73
  go_wp2_with fail
  go_at_call 39
  refine (refUnpack_any H.out _).mono ?_
  rintro e w1 ⟨rfl, hb⟩
  have HB := Lib.hid hb
  clear hb
  go_wp2_with fail
  go_at_call 62
  refine (HW.out _).mono ?_
  rintro e w2 ⟨rfl, hb⟩
  have HB2 := Lib.hid (((Below.refl _ w1).alloc (Nat.le_refl _) _).trans (hb.mono (by simp)))
  clear hb
  go_wp2_with fail
  go_ret2
  exact ⟨rfl, HB.out.trans (HB2.out.mono HB.out.size)⟩
set_option maxHeartbeats 1000000 in
theorem refTick_no {c k v n : Int} (h : Fit c k v) (hn : n ≤ 0) (W : World) :
    Calls Tryz.prog 33 #[.int .u64 (gI c k v), .int .i64 n] W fun e w' => e = .returned (.int .u64 (gI (c) k v)) ∧ Below W.heap.size W w' := by
  have H := Lib.hid h
  have d0 : decide (n ≤ 0) = true := by simp; omega
  obtain ⟨b0, b1, b2, b3, b4, b5⟩ := h
  clear b0 b1 b2 b3 b4 b5
  go_enter Tryz.func33, Tryz.ntmps33
  go_wp2_with fail
  go_at_call 39
  refine (refUnpack_any H.out _).mono ?_
  rintro e w1 ⟨rfl, hb⟩
  have HB := Lib.hid hb
  clear hb
  go_wp2_with fail
  go_ret
  exact ⟨rfl, HB.out.alloc HB.out.size _⟩
set_option maxHeartbeats 1000000 in
theorem refTick_far {c k v n : Int} (h : Fit c k v) (hn : 1099511627776 < n) (W : World) :
    Calls Tryz.prog 33 #[.int .u64 (gI c k v), .int .i64 n] W fun e w' => e = .returned (.int .u64 (gI (1099511627775) k v)) ∧ Below W.heap.size W w' := by
  have H := Lib.hid h
  have d0 : decide (n ≤ 0) = false := by simp; omega
  have d1 : decide (n > 1099511627776) = true := by simp; omega
  obtain ⟨b0, b1, b2, b3, b4, b5⟩ := h
  have hw := IntWalk.wrap64_in (c + 1099511627776) (by omega)
  have d2 : decide (c + 1099511627776 ≥ 1099511627776) = true := by simp; omega
  have HN : Hid (Fit (1099511627775) k v) := ⟨by omega, by omega, by omega, by omega, by omega, by omega⟩
  have HW := Lib.hid (with_any HN.out)
  clear hn
  clear b0 b1 b2 b3 b4 b5
  go_enter Tryz.func33, Tryz.ntmps33
  go_wp2_with fail
  go_at_call 39
  refine (refUnpack_any H.out _).mono ?_
  rintro e w1 ⟨rfl, hb⟩
  have HB := Lib.hid hb
  clear hb
  go_wp2_with fail
  go_at_call 62
  refine (HW.out _).mono ?_
  rintro e w2 ⟨rfl, hb⟩
  have HB2 := Lib.hid (((Below.refl _ w1).alloc (Nat.le_refl _) _).trans (hb.mono (by simp)))
  clear hb
  go_wp2_with fail
  go_ret
  exact ⟨rfl, HB.out.trans (HB2.out.mono HB.out.size)⟩
set_option maxHeartbeats 1000000 in
theorem refTick_top {c k v n : Int} (h : Fit c k v) (hn : 0 < n) (hn1 : n ≤ 1099511627776) (hn2 : 1099511627775 < c + n) (W : World) :
    Calls Tryz.prog 33 #[.int .u64 (gI c k v), .int .i64 n] W fun e w' => e = .returned (.int .u64 (gI (1099511627775) k v)) ∧ Below W.heap.size W w' := by
  have H := Lib.hid h
  have d0 : decide (n ≤ 0) = false := by simp; omega
  have d1 : decide (n > 1099511627776) = false := by simp; omega
  have d2 : decide (c + n ≥ 1099511627776) = true := by simp; omega
  obtain ⟨b0, b1, b2, b3, b4, b5⟩ := h
  have hw := IntWalk.wrap64_in (c + n) (by omega)
  have HN : Hid (Fit (1099511627775) k v) := ⟨by omega, by omega, by omega, by omega, by omega, by omega⟩
  have HW := Lib.hid (with_any HN.out)
  clear hn hn1 hn2
  clear b0 b1 b2 b3 b4 b5
  go_enter Tryz.func33, Tryz.ntmps33
  go_wp2_with fail
  go_at_call 39
  refine (refUnpack_any H.out _).mono ?_
  rintro e w1 ⟨rfl, hb⟩
  have HB := Lib.hid hb
  clear hb
  go_wp2_with fail
  go_at_call 62
  refine (HW.out _).mono ?_
  rintro e w2 ⟨rfl, hb⟩
  have HB2 := Lib.hid (((Below.refl _ w1).alloc (Nat.le_refl _) _).trans (hb.mono (by simp)))
  clear hb
  go_wp2_with fail
  go_ret
  exact ⟨rfl, HB.out.trans (HB2.out.mono HB.out.size)⟩
set_option maxHeartbeats 1000000 in
theorem refTick_in {c k v n : Int} (h : Fit c k v) (hn : 0 < n) (hn2 : ¬ 1099511627775 < c + n) (W : World) :
    Calls Tryz.prog 33 #[.int .u64 (gI c k v), .int .i64 n] W fun e w' => e = .returned (.int .u64 (gI (c + n) k v)) ∧ Below W.heap.size W w' := by
  have H := Lib.hid h
  obtain ⟨b0, b1, b2, b3, b4, b5⟩ := h
  have d0 : decide (n ≤ 0) = false := by simp; omega
  have d1 : decide (n > 1099511627776) = false := by simp; omega
  have d2 : decide (c + n ≥ 1099511627776) = false := by simp; omega
  have hw := IntWalk.wrap64_in (c + n) (by omega)
  have HN : Hid (Fit (c + n) k v) := ⟨by omega, by omega, by omega, by omega, by omega, by omega⟩
  have HW := Lib.hid (with_any HN.out)
  clear hn hn2
  clear b0 b1 b2 b3 b4 b5
  go_enter Tryz.func33, Tryz.ntmps33
  go_wp2_with fail
  go_at_call 39
  refine (refUnpack_any H.out _).mono ?_
  rintro e w1 ⟨rfl, hb⟩
  have HB := Lib.hid hb
  clear hb
  go_wp2_with fail
  go_at_call 62
  refine (HW.out _).mono ?_
  rintro e w2 ⟨rfl, hb⟩
  have HB2 := Lib.hid (((Below.refl _ w1).alloc (Nat.le_refl _) _).trans (hb.mono (by simp)))
  clear hb
  go_wp2_with fail
  go_ret
  exact ⟨rfl, HB.out.trans (HB2.out.mono HB.out.size)⟩
theorem refTick_any {c k v n : Int} (h : Fit c k v) (W : World) :
    Calls Tryz.prog 33 #[.int .u64 (gI c k v), .int .i64 n] W fun e w' => e = .returned (.int .u64 (gI (later c n) k v)) ∧ Below W.heap.size W w' := by
  have b := h.c0
  unfold later
  by_cases h0 : n ≤ 0
  · rw [if_pos h0]; exact refTick_no h h0 W
  · rw [if_neg h0]
    by_cases h1 : 1099511627775 < c + n
    · rw [if_pos h1]
      by_cases h2 : n ≤ 1099511627776
      · exact refTick_top h (by omega) h2 h1 W
      · exact refTick_far h (by omega) W
    · rw [if_neg h1]; exact refTick_in h (by omega) h1 W
end Ga
end Go.Proofs.YtcjppfggllbbeaaGreatDoor
/- Layer 14: awake; the contracts as a law's walk wants them (each answer under a name, with its frame). -/
set_option linter.unusedVariables false
set_option linter.unusedSimpArgs false
set_option maxRecDepth 100000
namespace Go.Proofs.YtcjppfggllbbeaaGreatDoor
open Go.ChangeShapes Go.WideShapes Go.ChangeAt Go.RowKit Go.Mtl
namespace Ga
open GatM (gI Fit)

theorem quiet_below {P : Program} {f : FuncId} {args : Array Value} {w : World} {v : Value} (h : Calls P f args w fun e w' => e = .returned v ∧ ∃ n, w' = w.drewN n) : Calls P f args w fun e w' => e = .returned v ∧ Below w.heap.size w w' :=
  h.mono fun _ _ ⟨a, n, b⟩ => ⟨a, b ▸ (Below.refl _ w).drews n⟩

/-- A step that may be refused: the word behind it, and whether it was taken. -/
structure Step (c k v : Int) (ok : Bool) (c' k' v' : Int) (x : Prop) : Prop where
  fit : Fit c' k' v'
  no : ok = false → c' = c ∧ k' = k ∧ v' = v ∧ ¬ x
  yes : ok = true → x
abbrev stepV (ok : Bool) (c k v : Int) : Value := .tuple #[.int .u64 (gI c k v), .bool ok]

/-- Enter's answer: whether, and the count behind it. -/
def EN (k l : Int) (ok : Bool) (k' : Int) : Prop := ok = true ∧ k' = k + 1 ∧ ¬ l ≤ k ∧ k ≠ 4095 ∨ ok = false ∧ k' = k ∧ (l ≤ k ∨ k = 4095)
def LV (k : Int) (ok : Bool) (k' : Int) : Prop := ok = true ∧ k' = k - 1 ∧ k ≠ 0 ∨ ok = false ∧ k' = k ∧ k = 0
def SW (v : Int) (ok : Bool) (v' : Int) : Prop := ok = true ∧ v' = v + 1 ∧ v ≠ 4095 ∨ ok = false ∧ v' = v ∧ v = 4095
theorem EN_is (k l : Int) : ∃ ok k', EN k l ok k' := by
  by_cases h : l ≤ k
  · exact ⟨false, k, .inr ⟨rfl, rfl, .inl h⟩⟩
  · by_cases h2 : k = 4095
    · exact ⟨false, k, .inr ⟨rfl, rfl, .inr h2⟩⟩
    · exact ⟨true, k + 1, .inl ⟨rfl, rfl, h, h2⟩⟩
theorem LV_is (k : Int) : ∃ ok k', LV k ok k' := by
  by_cases h : k = 0
  · exact ⟨false, k, .inr ⟨rfl, rfl, h⟩⟩
  · exact ⟨true, k - 1, .inl ⟨rfl, rfl, h⟩⟩
theorem SW_is (v : Int) : ∃ ok v', SW v ok v' := by
  by_cases h : v = 4095
  · exact ⟨false, v, .inr ⟨rfl, rfl, h⟩⟩
  · exact ⟨true, v + 1, .inl ⟨rfl, rfl, h⟩⟩
theorem EN_fit {c k v l : Int} (h : Fit c k v) {ok : Bool} {k' : Int} (he : EN k l ok k') : Fit c k' v := by
  obtain ⟨b0, b1, b2, b3, b4, b5⟩ := h
  rcases he with ⟨_, rfl, _, _⟩ | ⟨_, rfl, _⟩ <;> exact ⟨by omega, by omega, by omega, by omega, by omega, by omega⟩
theorem SW_fit {c k v : Int} (h : Fit c k v) {ok : Bool} {v' : Int} (he : SW v ok v') : Fit c k v' := by
  obtain ⟨b0, b1, b2, b3, b4, b5⟩ := h
  rcases he with ⟨_, rfl, _⟩ | ⟨_, rfl, _⟩ <;> exact ⟨by omega, by omega, by omega, by omega, by omega, by omega⟩
section
variable {c k v l : Int} {ok : Bool} {x : Int}
theorem enter_any (h : Fit c k v) (hs : EN k l ok x) (W : World) (he : Env W) :
    Calls Tryz.prog 88 #[.int .u64 (gI c k v), .int .i64 l] W fun e w' => e = .returned (stepV ok c x v) ∧ Below W.heap.size W w' := by
  rcases hs with ⟨rfl, rfl, h1, h2⟩ | ⟨rfl, rfl, h1⟩
  · exact quiet_below (enter_yes h h1 h2 W he)
  · by_cases h3 : l ≤ x
    · exact quiet_below (enter_full h h3 W he)
    · exact quiet_below (enter_top h h3 (by omega) W he)
theorem refEnter_any (h : Fit c k v) (hs : EN k l ok x) (W : World) :
    Calls Tryz.prog 73 #[.int .u64 (gI c k v), .int .i64 l] W fun e w' => e = .returned (stepV ok c x v) ∧ Below W.heap.size W w' := by
  rcases hs with ⟨rfl, rfl, h1, h2⟩ | ⟨rfl, rfl, h1⟩
  · exact refEnter_yes h h1 h2 W
  · by_cases h3 : l ≤ x
    · exact refEnter_full h h3 W
    · exact refEnter_top h h3 (by omega) W
theorem leave_any (h : Fit c k v) (hs : LV k ok x) (W : World) (he : Env W) :
    Calls Tryz.prog 55 #[.int .u64 (gI c k v)] W fun e w' => e = .returned (stepV ok c x v) ∧ Below W.heap.size W w' := by
  rcases hs with ⟨rfl, rfl, h1⟩ | ⟨rfl, rfl, h1⟩
  · exact quiet_below (leave_yes h h1 W he)
  · exact quiet_below (leave_no h h1 W he)
theorem refLeave_any (h : Fit c k v) (hs : LV k ok x) (W : World) :
    Calls Tryz.prog 66 #[.int .u64 (gI c k v)] W fun e w' => e = .returned (stepV ok c x v) ∧ Below W.heap.size W w' := by
  rcases hs with ⟨rfl, rfl, h1⟩ | ⟨rfl, rfl, h1⟩
  · exact refLeave_yes h h1 W
  · exact refLeave_no h h1 W
theorem swap_any (h : Fit c k v) (hs : SW v ok x) (W : World) (he : Env W) :
    Calls Tryz.prog 53 #[.int .u64 (gI c k v)] W fun e w' => e = .returned (stepV ok c k x) ∧ Below W.heap.size W w' := by
  rcases hs with ⟨rfl, rfl, h1⟩ | ⟨rfl, rfl, h1⟩
  · exact quiet_below (swap_yes h h1 W he)
  · exact quiet_below (swap_no h h1 W he)
theorem refSwap_any (h : Fit c k v) (hs : SW v ok x) (W : World) :
    Calls Tryz.prog 63 #[.int .u64 (gI c k v)] W fun e w' => e = .returned (stepV ok c k x) ∧ Below W.heap.size W w' := by
  rcases hs with ⟨rfl, rfl, h1⟩ | ⟨rfl, rfl, h1⟩
  · exact refSwap_yes h h1 W
  · exact refSwap_no h h1 W
end

/-- .. the struct written out, as a walk wants it. -/
theorem unpack_lit {c k v : Int} (h : Fit c k v) (W : World) (he : Env W) :
    Calls Tryz.prog 52 #[.int .u64 (gI c k v)] W fun e w' => e = .returned (.agg #[.int .i64 v, .int .i64 k, .int .i64 c]) ∧ Below W.heap.size W w' := unpack_any h W he
theorem refUnpack_lit {c k v : Int} (h : Fit c k v) (W : World) :
    Calls Tryz.prog 39 #[.int .u64 (gI c k v)] W fun e w' => e = .returned (.agg #[.int .i64 v, .int .i64 k, .int .i64 c]) ∧ Below W.heap.size W w' := refUnpack_any h W
theorem refPack_lit (c k v : Int) (V : Value) (hV : PV c k v V) (W : World) :
    Calls Tryz.prog 96 #[.agg #[.int .i64 v, .int .i64 k, .int .i64 c]] W fun e w' => e = .returned V ∧ Below W.heap.size W w' := refPack_any c k v V hV W
/-- The clock of a gate that a call has handed back. -/
theorem field2 (a b c : Value) (w : World) : (Instr.field 64 (.agg #[a, b, c]) 2).run Tryz.prog w = .ok c w := by kernel_rfl
theorem fit123 : Fit 3 2 1 := ⟨by omega, by omega, by omega, by omega, by omega, by omega⟩
theorem fit133 : Fit 3 3 1 := ⟨by omega, by omega, by omega, by omega, by omega, by omega⟩
theorem fit10 : Fit 10 2 1 := ⟨by omega, by omega, by omega, by omega, by omega, by omega⟩
theorem tick_aw (W : World) (he : Env W) : Calls Tryz.prog 54 #[.int .u64 (gI 3 2 1), .int .i64 7] W fun e w' => e = .returned (.int .u64 (gI 10 2 1)) ∧ Below W.heap.size W w' :=
  quiet_below (tick_any fit123 (by omega) (by omega) W he)
end Ga
end Go.Proofs.YtcjppfggllbbeaaGreatDoor
/- Layer 15: the table of the word's parts (Env), and the contracts of flow.get and flow.put. -/
set_option linter.unusedVariables false
set_option linter.unusedSimpArgs false
set_option maxRecDepth 100000
namespace Go.Proofs.YtcjppfggllbbeaaGreatDoor
open Go.ChangeShapes Go.WideShapes Go.ChangeAt Go.RowKit Go.Mtl
namespace Fl
open FloM (gI Fit)

theorem gParts : Tryz.prog.globalNamed "mantlet/flow.parts" = some 1 := by kernel_rfl

/-- What the table of parts holds. -/
structure Env (w : World) : Prop where
  c0 : w.cell? ⟨1, 0, none⟩ = some (.int .i64 0)
  c1 : w.cell? ⟨1, 1, none⟩ = some (.int .i64 40)
  c2 : w.cell? ⟨1, 2, none⟩ = some (.int .i64 1099511627775)
  c3 : w.cell? ⟨1, 3, none⟩ = some (.int .i64 40)
  c4 : w.cell? ⟨1, 4, none⟩ = some (.int .i64 20)
  c5 : w.cell? ⟨1, 5, none⟩ = some (.int .i64 1048575)
  c6 : w.cell? ⟨1, 6, none⟩ = some (.int .i64 60)
  c7 : w.cell? ⟨1, 7, none⟩ = some (.int .i64 4)
  c8 : w.cell? ⟨1, 8, none⟩ = some (.int .i64 15)
theorem Env.lt {w : World} (h : Env w) : 1 < w.heap.size := World.block_lt_of_cell? _ _ h.c0
theorem Env.below {w w' : World} (h : Env w) {B : Nat} (hb : Below B w w') (hB : w.heap.size ≤ B) : Env w' := by
  have hlt := h.lt
  have k : ∀ i, w'.cell? ⟨1, i, none⟩ = w.cell? ⟨1, i, none⟩ := fun i => hb.cell (Nat.lt_of_lt_of_le hlt hB)
  exact ⟨(k 0).trans h.c0, (k 1).trans h.c1, (k 2).trans h.c2, (k 3).trans h.c3, (k 4).trans h.c4, (k 5).trans h.c5, (k 6).trans h.c6, (k 7).trans h.c7, (k 8).trans h.c8⟩
theorem Env.alloc {w : World} (h : Env w) (o : Obj) : Env (w.alloc o) := h.below ((Below.refl _ _).alloc (Nat.le_refl _) o) (Nat.le_refl _)
theorem Env.drewN {w : World} (h : Env w) (n : Nat) : Env (w.drewN n) := ⟨h.c0, h.c1, h.c2, h.c3, h.c4, h.c5, h.c6, h.c7, h.c8⟩

theorem fget_c {c k v : Int} (h : Fit c k v) (W : World) :
    Calls Tryz.prog 103 #[.int .u64 (gI c k v), .int .i64 0, .int .i64 40] W fun e w' => e = .returned (.int .u64 c) ∧ ∃ n, w' = W.drewN n := by
  have := Fld.get_yes (gI c k v) 0 40 (FloM.gI_lo h) (FloM.gI_hi h) (by omega) (by omega) (by omega) W
  unfold Fld.getI at this
  rwa [FloM.get_c h] at this
theorem fget_k {c k v : Int} (h : Fit c k v) (W : World) :
    Calls Tryz.prog 103 #[.int .u64 (gI c k v), .int .i64 40, .int .i64 20] W fun e w' => e = .returned (.int .u64 k) ∧ ∃ n, w' = W.drewN n := by
  have := Fld.get_yes (gI c k v) 40 20 (FloM.gI_lo h) (FloM.gI_hi h) (by omega) (by omega) (by omega) W
  unfold Fld.getI at this
  rwa [FloM.get_k h] at this
theorem fget_v {c k v : Int} (h : Fit c k v) (W : World) :
    Calls Tryz.prog 103 #[.int .u64 (gI c k v), .int .i64 60, .int .i64 4] W fun e w' => e = .returned (.int .u64 v) ∧ ∃ n, w' = W.drewN n := by
  have := Fld.get_yes (gI c k v) 60 4 (FloM.gI_lo h) (FloM.gI_hi h) (by omega) (by omega) (by omega) W
  unfold Fld.getI at this
  rwa [FloM.get_v h] at this
theorem fput_c {c k v n : Int} (h : Fit c k v) (h0 : 0 ≤ n) (h1 : n < 1099511627776) (W : World) :
    Calls Tryz.prog 132 #[.int .u64 (gI c k v), .int .i64 0, .int .i64 40, .int .u64 n] W fun e w' => e = .returned (.int .u64 (gI n k v)) ∧ ∃ n, w' = W.drewN n := by
  have := Fld.put_yes (gI c k v) 0 40 n (FloM.gI_lo h) (FloM.gI_hi h) h0 (by omega) (by omega) (by omega) (by omega) W
  unfold Fld.putI at this
  rwa [FloM.put_c h h0 h1] at this
theorem fput_k {c k v n : Int} (h : Fit c k v) (h0 : 0 ≤ n) (h1 : n < 1048576) (W : World) :
    Calls Tryz.prog 132 #[.int .u64 (gI c k v), .int .i64 40, .int .i64 20, .int .u64 n] W fun e w' => e = .returned (.int .u64 (gI c n v)) ∧ ∃ n, w' = W.drewN n := by
  have := Fld.put_yes (gI c k v) 40 20 n (FloM.gI_lo h) (FloM.gI_hi h) h0 (by omega) (by omega) (by omega) (by omega) W
  unfold Fld.putI at this
  rwa [FloM.put_k h h0 h1] at this
theorem fput_v {c k v n : Int} (h : Fit c k v) (h0 : 0 ≤ n) (h1 : n < 18446744073709551616) (W : World) :
    Calls Tryz.prog 132 #[.int .u64 (gI c k v), .int .i64 60, .int .i64 4, .int .u64 n] W fun e w' => e = .returned (.int .u64 (gI c k (n % 16))) ∧ ∃ n, w' = W.drewN n := by
  have := Fld.put_yes (gI c k v) 60 4 n (FloM.gI_lo h) (FloM.gI_hi h) h0 (by omega) (by omega) (by omega) (by omega) W
  unfold Fld.putI at this
  rwa [FloM.put_v h h0] at this

set_option maxHeartbeats 1000000 in
theorem get_c {c k v : Int} (h : Fit c k v) (W : World) (he : Env W) :
    Calls Tryz.prog 74 #[.int .u64 (gI c k v), .int .i64 0] W fun e w' => e = .returned (.int .i64 c) ∧ ∃ n, w' = W.drewN n := by
  have H := Lib.hid h
  obtain ⟨b0, b1, b2, b3, b4, b5⟩ := h
  have x0 := he.c0
  have x1 := he.c1
  have hw : wrap64 c = c := IntWalk.wrap64_in _ (by omega)
  clear he b0 b1 b2 b3 b4 b5
  go_enter Tryz.func74, Tryz.ntmps74
  go_wp2_with fail
  refine region_still_tail 9 (by kernel_rfl) (by kernel_rfl) W.drew rfl ?_
  simp only [List.take_succ_cons, List.take_zero, List.drop_succ_cons, List.drop_zero]
  repeat still_step
  refine wpStill_nil ?_
  go_wp2_with (go_at_call 103; refine (fget_c H.out _).mono ?_; rintro e w' ⟨rfl, nq, rfl⟩)
  go_ret
  refine ⟨?_, 1 + nq, rfl⟩
  show Ending.returned (.int .i64 (wrap64 c)) = _
  rw [hw]
set_option maxHeartbeats 1000000 in
theorem get_k {c k v : Int} (h : Fit c k v) (W : World) (he : Env W) :
    Calls Tryz.prog 74 #[.int .u64 (gI c k v), .int .i64 1] W fun e w' => e = .returned (.int .i64 k) ∧ ∃ n, w' = W.drewN n := by
  have H := Lib.hid h
  obtain ⟨b0, b1, b2, b3, b4, b5⟩ := h
  have x0 := he.c3
  have x1 := he.c4
  have hw : wrap64 k = k := IntWalk.wrap64_in _ (by omega)
  clear he b0 b1 b2 b3 b4 b5
  go_enter Tryz.func74, Tryz.ntmps74
  go_wp2_with fail
  refine region_still_tail 9 (by kernel_rfl) (by kernel_rfl) W.drew rfl ?_
  simp only [List.take_succ_cons, List.take_zero, List.drop_succ_cons, List.drop_zero]
  repeat still_step
  refine wpStill_nil ?_
  go_wp2_with (go_at_call 103; refine (fget_k H.out _).mono ?_; rintro e w' ⟨rfl, nq, rfl⟩)
  go_ret
  refine ⟨?_, 1 + nq, rfl⟩
  show Ending.returned (.int .i64 (wrap64 k)) = _
  rw [hw]
set_option maxHeartbeats 1000000 in
theorem get_v {c k v : Int} (h : Fit c k v) (W : World) (he : Env W) :
    Calls Tryz.prog 74 #[.int .u64 (gI c k v), .int .i64 2] W fun e w' => e = .returned (.int .i64 v) ∧ ∃ n, w' = W.drewN n := by
  have H := Lib.hid h
  obtain ⟨b0, b1, b2, b3, b4, b5⟩ := h
  have x0 := he.c6
  have x1 := he.c7
  have hw : wrap64 v = v := IntWalk.wrap64_in _ (by omega)
  clear he b0 b1 b2 b3 b4 b5
  go_enter Tryz.func74, Tryz.ntmps74
  go_wp2_with fail
  refine region_still_tail 9 (by kernel_rfl) (by kernel_rfl) W.drew rfl ?_
  simp only [List.take_succ_cons, List.take_zero, List.drop_succ_cons, List.drop_zero]
  repeat still_step
  refine wpStill_nil ?_
  go_wp2_with (go_at_call 103; refine (fget_v H.out _).mono ?_; rintro e w' ⟨rfl, nq, rfl⟩)
  go_ret
  refine ⟨?_, 1 + nq, rfl⟩
  show Ending.returned (.int .i64 (wrap64 v)) = _
  rw [hw]
set_option maxHeartbeats 1000000 in
theorem put_c {c k v n : Int} (h : Fit c k v) (h0 : 0 ≤ n) (h1 : n < 1099511627776) (W : World) (he : Env W) :
    Calls Tryz.prog 127 #[.int .u64 (gI c k v), .int .i64 0, .int .i64 n] W fun e w' => e = .returned (.int .u64 (gI n k v)) ∧ ∃ n, w' = W.drewN n := by
  have H := Lib.hid h
  have H0 := Lib.hid h0
  have H1 := Lib.hid h1
  have x0 := he.c0
  have x1 := he.c1
  have hw : IntKind.u64.wrap n = n := by rw [IntKind.wrap_u64]; omega
  clear he h
  go_enter Tryz.func127, Tryz.ntmps127
  go_wp2_with fail
  refine region_still_tail 11 (by kernel_rfl) (by kernel_rfl) W.drew rfl ?_
  simp only [List.take_succ_cons, List.take_zero, List.drop_succ_cons, List.drop_zero]
  repeat still_step
  refine wpStill_nil ?_
  go_wp2_with (go_at_call 132; refine (fput_c H.out H0.out H1.out _).mono ?_; rintro e w' ⟨rfl, nq, rfl⟩)
  go_ret
  exact ⟨rfl, 1 + nq, rfl⟩
set_option maxHeartbeats 1000000 in
theorem put_k {c k v n : Int} (h : Fit c k v) (h0 : 0 ≤ n) (h1 : n < 1048576) (W : World) (he : Env W) :
    Calls Tryz.prog 127 #[.int .u64 (gI c k v), .int .i64 1, .int .i64 n] W fun e w' => e = .returned (.int .u64 (gI c n v)) ∧ ∃ n, w' = W.drewN n := by
  have H := Lib.hid h
  have H0 := Lib.hid h0
  have H1 := Lib.hid h1
  have x0 := he.c3
  have x1 := he.c4
  have hw : IntKind.u64.wrap n = n := by rw [IntKind.wrap_u64]; omega
  clear he h
  go_enter Tryz.func127, Tryz.ntmps127
  go_wp2_with fail
  refine region_still_tail 11 (by kernel_rfl) (by kernel_rfl) W.drew rfl ?_
  simp only [List.take_succ_cons, List.take_zero, List.drop_succ_cons, List.drop_zero]
  repeat still_step
  refine wpStill_nil ?_
  go_wp2_with (go_at_call 132; refine (fput_k H.out H0.out H1.out _).mono ?_; rintro e w' ⟨rfl, nq, rfl⟩)
  go_ret
  exact ⟨rfl, 1 + nq, rfl⟩
set_option maxHeartbeats 1000000 in
theorem put_v {c k v n : Int} (h : Fit c k v) (W : World) (he : Env W) :
    Calls Tryz.prog 127 #[.int .u64 (gI c k v), .int .i64 2, .int .i64 n] W fun e w' => e = .returned (.int .u64 (gI c k (n % 16))) ∧ ∃ n, w' = W.drewN n := by
  have H := Lib.hid h
  have hb : 0 ≤ IntKind.u64.wrap n ∧ IntKind.u64.wrap n < 18446744073709551616 := by rw [IntKind.wrap_u64]; omega
  have hq : IntKind.u64.wrap n % 16 = n % 16 := by rw [IntKind.wrap_u64]; omega
  have HC := Lib.hid (fun W => fput_v (n := IntKind.u64.wrap n) h hb.1 hb.2 W)
  rw [hq] at HC
  have x0 := he.c6
  have x1 := he.c7
  clear he h hb hq
  go_enter Tryz.func127, Tryz.ntmps127
  go_wp2_with fail
  refine region_still_tail 11 (by kernel_rfl) (by kernel_rfl) W.drew rfl ?_
  simp only [List.take_succ_cons, List.take_zero, List.drop_succ_cons, List.drop_zero]
  repeat still_step
  refine wpStill_nil ?_
  go_wp2_with (go_at_call 132; refine (HC.out _).mono ?_; rintro e w' ⟨rfl, nq, rfl⟩)
  go_ret
  exact ⟨rfl, 1 + nq, rfl⟩
end Fl
end Go.Proofs.YtcjppfggllbbeaaGreatDoor
/- Layer 15: the contracts of flow.Unpack, Pack, Next, Over, Dead. -/
set_option linter.unusedVariables false
set_option linter.unusedSimpArgs false
set_option maxRecDepth 100000
namespace Go.Proofs.YtcjppfggllbbeaaGreatDoor
open Go.ChangeShapes Go.WideShapes Go.ChangeAt Go.RowKit Go.Mtl
namespace Fl
open FloM (gI Fit)
/-- A flow's three cells. -/
abbrev gtc (v k c : Int) : Array Value := #[.int .i64 v, .int .i64 k, .int .i64 c]
section
variable {w w' : World} {g : Nat} {v k c : Int} {t : TypeId}
theorem gt_cells (H : Blk w g (gtc v k c) t) : w.cell? ⟨g, 0, none⟩ = some (.int .i64 v) ∧ w.cell? ⟨g, 1, none⟩ = some (.int .i64 k) ∧ w.cell? ⟨g, 2, none⟩ = some (.int .i64 c) := by
  refine ⟨?_, ?_, ?_⟩ <;> exact H.cell _ _ rfl
theorem gt_frozen (H : Blk w g (gtc v k c) t) : w.frozen? ⟨g, 0, none⟩ = false ∧ w.frozen? ⟨g, 1, none⟩ = false ∧ w.frozen? ⟨g, 2, none⟩ = false := by
  refine ⟨?_, ?_, ?_⟩ <;> exact H.frozen _
abbrev storeG (w : World) (g : Nat) (v k c : Int) : World := ((w.setCell ⟨g, 0, none⟩ (.int .i64 v)).setCell ⟨g, 1, none⟩ (.int .i64 k)).setCell ⟨g, 2, none⟩ (.int .i64 c)
theorem gt_store (H : Blk w g (gtc v k c) t) (v' k' c' : Int) : Blk (storeG w g v' k' c') g (gtc v' k' c') t := by
  have h0 := H.set' 0 (.int .i64 v') (cs' := gtc v' k c) rfl
  have h1 := h0.set' 1 (.int .i64 k') (cs' := gtc v' k' c) rfl
  exact h1.set' 2 (.int .i64 c') rfl
theorem storeG_other {cs : Array Value} {n : Nat} (H : Blk w g cs t) (hk : g ≠ n) (a b d : Int) : Blk (storeG w n a b d) g cs t := ((H.other n 0 hk _).other n 1 hk _).other n 2 hk _
theorem below_storeG {B : Nat} {w0 : World} (hb : Below B w0 w) (hg : B ≤ g) (a b d : Int) : Below B w0 (storeG w g a b d) :=
  ((hb.setCell (p := ⟨g, 0, none⟩) hg _).setCell (p := ⟨g, 1, none⟩) hg _).setCell (p := ⟨g, 2, none⟩) hg _
end

set_option maxHeartbeats 1000000 in
theorem unpack_any {c k v : Int} (h : Fit c k v) (W : World) (he : Env W) :
    Calls Tryz.prog 41 #[.int .u64 (gI c k v)] W fun e w' => e = .returned (.agg (gtc v k c)) ∧ Below W.heap.size W w' := by
  have H := Lib.hid h
  have HE := Lib.hid (he.alloc (.cells (gtc 0 0 0) 50))
  have HX := Lib.hid (Blk.box W (gtc 0 0 0) 50)
  have HB := Lib.hid ((Below.refl _ W).alloc (Nat.le_refl _) (.cells (gtc 0 0 0) 50))
  clear he h
  go_enter Tryz.func41, Tryz.ntmps41
  go_wp2_with fail
  go_at_call 74
  refine (get_v H.out _ HE.out).mono ?_
  rintro e w' ⟨rfl, n1, rfl⟩
  go_wp2_with fail
  go_at_call 74
  refine (get_k H.out _ (HE.out.drewN n1)).mono ?_
  rintro e w' ⟨rfl, n2, rfl⟩
  go_wp2_with fail
  go_at_call 74
  refine (get_c H.out _ (HE.out.drewN (n1 + n2))).mono ?_
  rintro e w' ⟨rfl, n3, rfl⟩
  have f0 := (HX.out.drewN (n1 + n2 + n3)).frozen 0
  have f1 := (HX.out.drewN (n1 + n2 + n3)).frozen 1
  have f2 := (HX.out.drewN (n1 + n2 + n3)).frozen 2
  obtain ⟨y0, y1, y2⟩ := gt_cells (HX.out.drewN (n1 + n2 + n3))
  go_wp2_with fail
  have HR := gt_store (HX.out.drewN (n1 + n2 + n3)) v k c
  obtain ⟨r0, r1, r2⟩ := gt_cells HR
  exact bodyPost_ret (v := .agg (gtc v k c)) (by simp [results, Tryz.results41, go_sem, r0, r1, r2]) rfl ⟨rfl, below_storeG (HB.out.drews _) (by simp) _ _ _⟩

theorem put_vf {c k v n : Int} (h : Fit c k v) (h0 : 0 ≤ n) (h1 : n < 16) (W : World) (he : Env W) :
    Calls Tryz.prog 127 #[.int .u64 (gI c k v), .int .i64 2, .int .i64 n] W fun e w' => e = .returned (.int .u64 (gI c k n)) ∧ ∃ n, w' = W.drewN n := by
  have := put_v (n := n) h W he
  rwa [show n % 16 = n by omega] at this
/-- Ahead of round j of Pack: the word so far, and what fits. -/
def St (c k v : Int) (j : Nat) (x : Int) : Prop := j = 0 ∧ x = gI 0 0 0 ∨ j = 1 ∧ (0 ≤ c ∧ c < 1099511627776) ∧ x = gI c 0 0 ∨ j = 2 ∧ (0 ≤ c ∧ c < 1099511627776) ∧ (0 ≤ k ∧ k < 1048576) ∧ x = gI c k 0 ∨ j = 3 ∧ (0 ≤ c ∧ c < 1099511627776) ∧ (0 ≤ k ∧ k < 1048576) ∧ (0 ≤ v ∧ v < 16) ∧ x = gI c k v
theorem gI_zero : (0 : Int) = gI 0 0 0 := by unfold gI; rfl
/-- What Pack returns. -/
def PV (c k v : Int) (V : Value) : Prop := (Fit c k v → V = .tuple #[.int .u64 (gI c k v), .int .i64 0]) ∧ (¬ Fit c k v → V = .tuple #[.int .u64 0, .int .i64 1])
theorem PV_is (c k v : Int) : ∃ V, PV c k v V := by
  by_cases h : Fit c k v
  · exact ⟨_, fun _ => rfl, fun h' => absurd h h'⟩
  · exact ⟨_, fun h' => absurd h' h, fun _ => rfl⟩
end Fl
end Go.Proofs.YtcjppfggllbbeaaGreatDoor
