/- Layer 14: the contracts of gate.increase, Tick, Enter, Leave and Swap. -/
import Derived.Test.YtgddocpndogigaaDoorGatA
set_option linter.unusedVariables false
set_option linter.unusedSimpArgs false
namespace Go.Proofs.YtgddocpndogigaaDoor
open Go.ChangeShapes Go.WideShapes Go.ChangeAt Go.RowKit Go.Mtl
namespace Ga
open GatM (gI Fit)

set_option maxHeartbeats 1000000 in
theorem inc_k_no {c k v : Int} (h : Fit c k v) (hm : k = 4095) (W : World) (he : Env W) :
    Calls Tryd.prog 22 #[.int .u64 (gI c k v), .int .i64 1] W fun e w' => e = .returned (.tuple #[.int .u64 (gI c k v), .bool false]) ∧ ∃ n, w' = W.drewN n := by
  have H := Lib.hid h
  have HE := Lib.hid he
  have x0 := he.c5
  have hd : (k == (4095 : Int)) = true := by rw [hm]; rfl
  clear he h hm
  go_enter Tryd.func22, Tryd.ntmps22
  go_wp2_with (go_at_call 21; refine (get_k H.out _ HE.out).mono ?_; rintro e w' ⟨rfl, nq, rfl⟩)
  go_ret2
  exact ⟨rfl, nq, rfl⟩
set_option maxHeartbeats 1000000 in
theorem inc_k_yes {c k v : Int} (h : Fit c k v) (hm : k ≠ 4095) (W : World) (he : Env W) :
    Calls Tryd.prog 22 #[.int .u64 (gI c k v), .int .i64 1] W fun e w' => e = .returned (.tuple #[.int .u64 (gI c (k + 1) v), .bool true]) ∧ ∃ n, w' = W.drewN n := by
  have H := Lib.hid h
  have HE := Lib.hid he
  have x0 := he.c5
  have hd : (k == (4095 : Int)) = false := by simpa using hm
  obtain ⟨b0, b1, b2, b3, b4, b5⟩ := h
  have hw : wrap64 (k + 1) = k + 1 := IntWalk.wrap64_in _ (by omega)
  have H0 : Hid (0 ≤ k + 1 ∧ k + 1 < 4096) := by show _ ∧ _; omega
  clear he hm b0 b1 b2 b3 b4 b5
  go_enter Tryd.func22, Tryd.ntmps22
  go_wp2_with (go_at_call 21; refine (get_k H.out _ HE.out).mono ?_; rintro e w' ⟨rfl, nq, rfl⟩)
  go_at_call 20
  refine (put_k H.out H0.out.1 H0.out.2 _ (HE.out.drewN nq)).mono ?_
  rintro e w' ⟨rfl, nr, rfl⟩
  go_wp2_with fail
  go_ret2
  exact ⟨rfl, nq + nr, rfl⟩
set_option maxHeartbeats 1000000 in
theorem inc_v_no {c k v : Int} (h : Fit c k v) (hm : v = 4095) (W : World) (he : Env W) :
    Calls Tryd.prog 22 #[.int .u64 (gI c k v), .int .i64 2] W fun e w' => e = .returned (.tuple #[.int .u64 (gI c k v), .bool false]) ∧ ∃ n, w' = W.drewN n := by
  have H := Lib.hid h
  have HE := Lib.hid he
  have x0 := he.c8
  have hd : (v == (4095 : Int)) = true := by rw [hm]; rfl
  clear he h hm
  go_enter Tryd.func22, Tryd.ntmps22
  go_wp2_with (go_at_call 21; refine (get_v H.out _ HE.out).mono ?_; rintro e w' ⟨rfl, nq, rfl⟩)
  go_ret2
  exact ⟨rfl, nq, rfl⟩
set_option maxHeartbeats 1000000 in
theorem inc_v_yes {c k v : Int} (h : Fit c k v) (hm : v ≠ 4095) (W : World) (he : Env W) :
    Calls Tryd.prog 22 #[.int .u64 (gI c k v), .int .i64 2] W fun e w' => e = .returned (.tuple #[.int .u64 (gI c k (v + 1)), .bool true]) ∧ ∃ n, w' = W.drewN n := by
  have H := Lib.hid h
  have HE := Lib.hid he
  have x0 := he.c8
  have hd : (v == (4095 : Int)) = false := by simpa using hm
  obtain ⟨b0, b1, b2, b3, b4, b5⟩ := h
  have hw : wrap64 (v + 1) = v + 1 := IntWalk.wrap64_in _ (by omega)
  have H0 : Hid (0 ≤ v + 1 ∧ v + 1 < 4096) := by show _ ∧ _; omega
  clear he hm b0 b1 b2 b3 b4 b5
  go_enter Tryd.func22, Tryd.ntmps22
  go_wp2_with (go_at_call 21; refine (get_v H.out _ HE.out).mono ?_; rintro e w' ⟨rfl, nq, rfl⟩)
  go_at_call 20
  refine (put_v H.out H0.out.1 H0.out.2 _ (HE.out.drewN nq)).mono ?_
  rintro e w' ⟨rfl, nr, rfl⟩
  go_wp2_with fail
  go_ret2
  exact ⟨rfl, nq + nr, rfl⟩

set_option maxHeartbeats 1000000 in
theorem swap_no {c k v : Int} (h : Fit c k v) (hm : v = 4095) (W : World) (he : Env W) :
    Calls Tryd.prog 16 #[.int .u64 (gI c k v)] W fun e w' => e = .returned (.tuple #[.int .u64 (gI c k v), .bool false]) ∧ ∃ n, w' = W.drewN n := by
  have H := Lib.hid (inc_v_no h hm W he)
  clear h hm he
  go_enter Tryd.func16, Tryd.ntmps16
  go_wp2_with (go_at_call 22; refine H.out.mono ?_; rintro e w' ⟨rfl, nq, rfl⟩)
  go_ret2
  exact ⟨rfl, nq, rfl⟩
set_option maxHeartbeats 1000000 in
theorem swap_yes {c k v : Int} (h : Fit c k v) (hm : v ≠ 4095) (W : World) (he : Env W) :
    Calls Tryd.prog 16 #[.int .u64 (gI c k v)] W fun e w' => e = .returned (.tuple #[.int .u64 (gI c k (v + 1)), .bool true]) ∧ ∃ n, w' = W.drewN n := by
  have H := Lib.hid (inc_v_yes h hm W he)
  clear h hm he
  go_enter Tryd.func16, Tryd.ntmps16
  go_wp2_with (go_at_call 22; refine H.out.mono ?_; rintro e w' ⟨rfl, nq, rfl⟩)
  go_ret2
  exact ⟨rfl, nq, rfl⟩

set_option maxHeartbeats 1000000 in
theorem leave_no {c k v : Int} (h : Fit c k v) (hm : k = 0) (W : World) (he : Env W) :
    Calls Tryd.prog 14 #[.int .u64 (gI c k v)] W fun e w' => e = .returned (.tuple #[.int .u64 (gI c k v), .bool false]) ∧ ∃ n, w' = W.drewN n := by
  have H := Lib.hid h
  have HE := Lib.hid he
  have hd : (k == (0 : Int)) = true := by rw [hm]; rfl
  clear he h hm
  go_enter Tryd.func14, Tryd.ntmps14
  go_wp2_with (go_at_call 21; refine (get_k H.out _ HE.out).mono ?_; rintro e w' ⟨rfl, nq, rfl⟩)
  go_ret2
  exact ⟨rfl, nq, rfl⟩
set_option maxHeartbeats 1000000 in
theorem leave_yes {c k v : Int} (h : Fit c k v) (hm : k ≠ 0) (W : World) (he : Env W) :
    Calls Tryd.prog 14 #[.int .u64 (gI c k v)] W fun e w' => e = .returned (.tuple #[.int .u64 (gI c (k - 1) v), .bool true]) ∧ ∃ n, w' = W.drewN n := by
  have H := Lib.hid h
  have HE := Lib.hid he
  have hd : (k == (0 : Int)) = false := by simpa using hm
  obtain ⟨b0, b1, b2, b3, b4, b5⟩ := h
  have hw : wrap64 (k - 1) = k - 1 := IntWalk.wrap64_in _ (by omega)
  have H0 : Hid (0 ≤ k - 1 ∧ k - 1 < 4096) := by show _ ∧ _; omega
  clear he hm b0 b1 b2 b3 b4 b5
  go_enter Tryd.func14, Tryd.ntmps14
  go_wp2_with (go_at_call 21; refine (get_k H.out _ HE.out).mono ?_; rintro e w' ⟨rfl, nq, rfl⟩)
  go_at_call 20
  refine (put_k H.out H0.out.1 H0.out.2 _ (HE.out.drewN nq)).mono ?_
  rintro e w' ⟨rfl, nr, rfl⟩
  go_wp2_with fail
  go_ret2
  exact ⟨rfl, nq + nr, rfl⟩

set_option maxHeartbeats 1000000 in
theorem enter_full {c k v l : Int} (h : Fit c k v) (hm : l ≤ k) (W : World) (he : Env W) :
    Calls Tryd.prog 12 #[.int .u64 (gI c k v), .int .i64 l] W fun e w' => e = .returned (.tuple #[.int .u64 (gI c k v), .bool false]) ∧ ∃ n, w' = W.drewN n := by
  have H := Lib.hid h
  have HE := Lib.hid he
  have hd : decide (k ≥ l) = true := by simpa using hm
  clear he h
  go_enter Tryd.func12, Tryd.ntmps12
  go_wp2_with (go_at_call 21; refine (get_k H.out _ HE.out).mono ?_; rintro e w' ⟨rfl, nq, rfl⟩)
  go_ret2
  exact ⟨rfl, nq, rfl⟩
set_option maxHeartbeats 1000000 in
theorem enter_top {c k v l : Int} (h : Fit c k v) (hm : ¬ l ≤ k) (hk : k = 4095) (W : World) (he : Env W) :
    Calls Tryd.prog 12 #[.int .u64 (gI c k v), .int .i64 l] W fun e w' => e = .returned (.tuple #[.int .u64 (gI c k v), .bool false]) ∧ ∃ n, w' = W.drewN n := by
  have H := Lib.hid h
  have HE := Lib.hid he
  have HK := Lib.hid hk
  clear he h hk
  go_enter Tryd.func12, Tryd.ntmps12
  go_wp2_with (go_at_call 21; refine (get_k H.out _ HE.out).mono ?_; rintro e w' ⟨rfl, nq, rfl⟩)
  go_at_call 22
  refine (inc_k_no H.out HK.out _ (HE.out.drewN nq)).mono ?_
  rintro e w' ⟨rfl, nr, rfl⟩
  go_wp2_with fail
  go_ret2
  exact ⟨rfl, nq + nr, rfl⟩
set_option maxHeartbeats 1000000 in
theorem enter_yes {c k v l : Int} (h : Fit c k v) (hm : ¬ l ≤ k) (hk : k ≠ 4095) (W : World) (he : Env W) :
    Calls Tryd.prog 12 #[.int .u64 (gI c k v), .int .i64 l] W fun e w' => e = .returned (.tuple #[.int .u64 (gI c (k + 1) v), .bool true]) ∧ ∃ n, w' = W.drewN n := by
  have H := Lib.hid h
  have HE := Lib.hid he
  have HK := Lib.hid hk
  clear he h hk
  go_enter Tryd.func12, Tryd.ntmps12
  go_wp2_with (go_at_call 21; refine (get_k H.out _ HE.out).mono ?_; rintro e w' ⟨rfl, nq, rfl⟩)
  go_at_call 22
  refine (inc_k_yes H.out HK.out _ (HE.out.drewN nq)).mono ?_
  rintro e w' ⟨rfl, nr, rfl⟩
  go_wp2_with fail
  go_ret2
  exact ⟨rfl, nq + nr, rfl⟩

/-- The clock behind n ticks. -/
def later (c n : Int) : Int := if n ≤ 0 then c else if 1099511627775 < c + n then 1099511627775 else c + n
theorem later_fit {c k v n : Int} (h : Fit c k v) : 0 ≤ later c n ∧ later c n < 1099511627776 ∧ c ≤ later c n := by
  obtain ⟨_, _, _, _, _, _⟩ := h; unfold later
  split
  · omega
  · split <;> omega
theorem put_cx {c k v x : Int} (m : Int) (h : Fit c k v) (hx : x = m) (h0 : 0 ≤ m) (h1 : m < 1099511627776) (W : World) (he : Env W) :
    Calls Tryd.prog 20 #[.int .u64 (gI c k v), .int .i64 0, .int .i64 x] W fun e w' => e = .returned (.int .u64 (gI m k v)) ∧ ∃ n, w' = W.drewN n := by
  subst hx; exact put_c h h0 h1 W he
set_option maxHeartbeats 1000000 in
theorem tick_any {c k v n : Int} (h : Fit c k v) (hn0 : -9223372036854775808 ≤ n) (hn1 : n ≤ 9223372036854775807) (W : World) (he : Env W) :
    Calls Tryd.prog 18 #[.int .u64 (gI c k v), .int .i64 n] W fun e w' => e = .returned (.int .u64 (gI (later c n) k v)) ∧ ∃ n, w' = W.drewN n := by
  have H := Lib.hid h
  have HE := Lib.hid he
  have x2 := he.c2
  have HL := Lib.hid (later_fit (n := n) h)
  obtain ⟨b0, b1, b2, b3, b4, b5⟩ := h
  have hw : wrap64 (1099511627775 - c) = 1099511627775 - c := IntWalk.wrap64_in _ (by omega)
  clear he
  go_enter Tryd.func18, Tryd.ntmps18
  go_wp2_with (go_at_call 21; refine (get_c H.out _ HE.out).mono ?_; rintro e w' ⟨rfl, nq, rfl⟩)
  all_goals go_at_call 20
  all_goals refine (put_cx (later c n) H.out ?_ HL.out.1 HL.out.2.1 _ (HE.out.drewN nq)).mono ?_
  all_goals first | (show _ = later c n; unfold later; split <;> (try split) <;> omega) | skip
  all_goals rintro e w' ⟨rfl, nr, rfl⟩
  all_goals go_wp2_with fail
  all_goals go_ret
  all_goals exact ⟨rfl, nq + nr, rfl⟩
end Ga
end Go.Proofs.YtgddocpndogigaaDoor
