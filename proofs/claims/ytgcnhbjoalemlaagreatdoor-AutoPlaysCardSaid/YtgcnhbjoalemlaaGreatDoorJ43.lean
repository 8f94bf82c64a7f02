/- Several texts of this proof in one file, each in its own namespace. -/
import Derived.Test.YtgcnhbjoalemlaaGreatDoorJ42
import Derived.Test.YtgcnhbjoalemlaaGreatDoorAutU
import Derived.Deep.RegionHeld3
import Derived.Deep.MidRow
import Derived.Test.YtgcnhbjoalemlaaGreatDoorJ6
import Derived.Test.YtgcnhbjoalemlaaGreatDoorJ30
import Derived.Test.YtgcnhbjoalemlaaGreatDoorJ41
import Derived.Test.YtgcnhbjoalemlaaGreatDoorComR
/- Layer 18: the contract of Count. (Written by wip/tools/mkAutV.py.) -/
set_option linter.unusedVariables false
set_option linter.unusedSimpArgs false
set_option maxRecDepth 100000
namespace Go.Proofs.YtgcnhbjoalemlaaGreatDoor
open Go.ChangeShapes Go.WideShapes Go.ChangeAt Go.RowKit Go.Mtl Go.Lib
namespace Au
open AutM
open RulM (R)

section
variable {w : World} {O : Nat → Prop} {B M : Nat} {N : Int} {T : Nat → Int} {x : Int} {li : Value} {rl : List R} {fs : List Fl} {t : Nat → Int}

set_option maxHeartbeats 1000000 in
theorem count_1 (H : Raw w O B M N T x li rl fs t) (ht : 0 ≤ t 1 ∧ t 1 < 18446744073709551616) (hm : t 1 ≠ 18446744073709551615) :
    Calls Tryz.prog 18 #[ptr B, .int .i64 1] w fun e w' => e = .returned (.tuple #[]) ∧ Raw w' O B M N T x li rl fs (tlN t 1) ∧ Only O w w' := by
  have cj := H.at_ 21 _ rfl
  have HH := Lib.hid H
  have HV := Lib.hid (fun W => verdict_any 1 W)
  have dm : (t 1 == 18446744073709551615) = false := by simpa using hm
  have hw : IntKind.u64.wrap (t 1 + 1) = t 1 + 1 := by simp [IntKind.wrap, IntKind.bits, IntKind.signed]; omega
  clear H hm ht
  go_enter Tryz.func18, Tryz.ntmps18
  go_wp2_with fail
  go_at_call 35
  refine (HV.out _).mono ?_
  rintro e w' ⟨rfl, rfl⟩
  go_wp2_with fail
  refine wp_region_held_drew (S := fun _ => True) (by kernel_rfl) (trivial) (fun hH => ?_)
  refine wpAnyH_take (i := 0) (oi := ⟨some 20, _, _, _, _, _⟩) (v := ?v1) rfl (by kernel_rfl) (by kernel_rfl) (by kernel_rfl) (fun _ _ _ h => h) (Or.inl ⟨rfl, ?c1⟩) hH ?r1
  case c1 => (intro w' _; go_simp; (try with_reducible rfl))
  try simp only [Act.put, List.setIfInBounds_toArray, List.set_cons_zero, List.set_cons_succ]
  refine wpAnyH_take (i := 1) (oi := ⟨some 21, _, _, _, _, _⟩) (v := ?v2) rfl (by kernel_rfl) (by kernel_rfl) (by kernel_rfl) (fun _ _ _ h => h) (Or.inl ⟨rfl, ?c2⟩) hH ?r2
  case c2 => (intro w' _; go_simp; (try with_reducible rfl))
  try simp only [Act.put, List.setIfInBounds_toArray, List.set_cons_zero, List.set_cons_succ]
  refine wpAnyH_take (i := 2) (oi := ⟨some 22, _, _, _, _, _⟩) (v := ?v3) rfl (by kernel_rfl) (by kernel_rfl) (by kernel_rfl) (fun _ _ _ h => h) (Or.inl ⟨rfl, ?c3⟩) hH ?r3
  case c3 => (intro w' _; go_simp; (try with_reducible rfl))
  try simp only [Act.put, List.setIfInBounds_toArray, List.set_cons_zero, List.set_cons_succ]
  refine wpAnyH_take (i := 3) (oi := ⟨some 23, _, _, _, _, _⟩) (v := ?v4) rfl (by kernel_rfl) (by kernel_rfl) (by kernel_rfl) (fun _ _ _ h => h) (Or.inl ⟨rfl, ?c4⟩) hH ?r4
  case c4 => (intro w' _; go_simp; (try with_reducible rfl))
  try simp only [Act.put, List.setIfInBounds_toArray, List.set_cons_zero, List.set_cons_succ]
  refine wpAnyH_take (i := 4) (oi := ⟨some 24, _, _, _, _, _⟩) (v := ?v5) rfl (by kernel_rfl) (by kernel_rfl) (by kernel_rfl) (fun _ _ _ h => h) (Or.inl ⟨rfl, ?c5⟩) hH ?r5
  case c5 => (intro w' _; go_simp; (try with_reducible rfl))
  try simp only [Act.put, List.setIfInBounds_toArray, List.set_cons_zero, List.set_cons_succ]
  refine wpAnyH_take (i := 7) (oi := ⟨some 27, _, _, _, _, _⟩) (v := ?v6) rfl (by kernel_rfl) (by kernel_rfl) (by kernel_rfl) (fun _ _ _ h => h) (Or.inl ⟨rfl, ?c6⟩) hH ?r6
  case c6 => (intro w' _; go_simp; (try with_reducible rfl))
  try simp only [Act.put, List.setIfInBounds_toArray, List.set_cons_zero, List.set_cons_succ]
  refine wpAnyH_take (i := 8) (oi := ⟨some 28, _, _, _, _, _⟩) (v := ?v7) rfl (by kernel_rfl) (by kernel_rfl) (by kernel_rfl) (fun _ _ _ h => h) (Or.inl ⟨rfl, ?c7⟩) hH ?r7
  case c7 => (intro w' _; go_simp; (try with_reducible rfl))
  try simp only [Act.put, List.setIfInBounds_toArray, List.set_cons_zero, List.set_cons_succ]
  refine wpAnyH_ready (rs := [5]) (by kernel_rfl) (by simp) (AllReadyH.cons rfl (fun K hK => ?_) (AllReadyH.nil))
  have c9 := HH.out.drew.at_ 21 _ rfl
  go_simp
  clear c9
  refine hK.out _ _ (trivial) (fun hH => ?_)
  clear hK K
  try simp only [Act.put, List.setIfInBounds_toArray, List.set_cons_zero, List.set_cons_succ]
  refine wpAnyH_take (i := 6) (oi := ⟨some 26, _, _, _, _, _⟩) (v := ?v8) rfl (by kernel_rfl) (by kernel_rfl) (by kernel_rfl) (fun _ _ _ h => h) (Or.inl ⟨rfl, ?c8⟩) hH ?r8
  case c8 => (intro w' _; go_simp; (try with_reducible rfl))
  try simp only [Act.put, List.setIfInBounds_toArray, List.set_cons_zero, List.set_cons_succ]
  refine wpAnyH_take (i := 9) (oi := ⟨some 29, _, _, _, _, _⟩) (v := ?v9) rfl (by kernel_rfl) (by kernel_rfl) (by kernel_rfl) (fun _ _ _ h => h) (Or.inl ⟨rfl, ?c9⟩) hH ?r9
  case c9 => (intro w' _; go_simp; (try with_reducible rfl))
  try simp only [Act.put, List.setIfInBounds_toArray, List.set_cons_zero, List.set_cons_succ]
  refine wpAnyH_ready (rs := [10]) (by kernel_rfl) (by simp) (AllReadyH.cons rfl (fun K hK => ?_) (AllReadyH.nil))
  have f9 := HH.out.drew.blk.frozen 21
  have c9 := HH.out.drew.at_ 21 _ rfl
  go_simp
  clear f9 c9
  refine hK.out _ _ (trivial) (fun hH => ?_)
  clear hK K
  try simp only [Act.put, List.setIfInBounds_toArray, List.set_cons_zero, List.set_cons_succ]
  refine wpAnyH_done (by kernel_rfl) ?_ _
  clear hH
  go_wp2_with fail
  go_end0
  have HS := HH.out.drew.set 21 (.int .u64 (t 1 + 1)) (N' := N) (T' := T) (x' := x) (t' := tlN t 1) (by simp [tlN])
  exact ⟨rfl, HS, ((Only.refl O w).next (Below.refl _ w).drew).setCell (.inl HH.out.ob) _⟩

set_option maxHeartbeats 1000000 in
theorem count_2 (H : Raw w O B M N T x li rl fs t) (ht : 0 ≤ t 2 ∧ t 2 < 18446744073709551616) (hm : t 2 ≠ 18446744073709551615) :
    Calls Tryz.prog 18 #[ptr B, .int .i64 2] w fun e w' => e = .returned (.tuple #[]) ∧ Raw w' O B M N T x li rl fs (tlN t 2) ∧ Only O w w' := by
  have cj := H.at_ 22 _ rfl
  have HH := Lib.hid H
  have HV := Lib.hid (fun W => verdict_any 2 W)
  have dm : (t 2 == 18446744073709551615) = false := by simpa using hm
  have hw : IntKind.u64.wrap (t 2 + 1) = t 2 + 1 := by simp [IntKind.wrap, IntKind.bits, IntKind.signed]; omega
  clear H hm ht
  go_enter Tryz.func18, Tryz.ntmps18
  go_wp2_with fail
  go_at_call 35
  refine (HV.out _).mono ?_
  rintro e w' ⟨rfl, rfl⟩
  go_wp2_with fail
  refine wp_region_held_drew (S := fun _ => True) (by kernel_rfl) (trivial) (fun hH => ?_)
  refine wpAnyH_take (i := 0) (oi := ⟨some 20, _, _, _, _, _⟩) (v := ?v1) rfl (by kernel_rfl) (by kernel_rfl) (by kernel_rfl) (fun _ _ _ h => h) (Or.inl ⟨rfl, ?c1⟩) hH ?r1
  case c1 => (intro w' _; go_simp; (try with_reducible rfl))
  try simp only [Act.put, List.setIfInBounds_toArray, List.set_cons_zero, List.set_cons_succ]
  refine wpAnyH_take (i := 1) (oi := ⟨some 21, _, _, _, _, _⟩) (v := ?v2) rfl (by kernel_rfl) (by kernel_rfl) (by kernel_rfl) (fun _ _ _ h => h) (Or.inl ⟨rfl, ?c2⟩) hH ?r2
  case c2 => (intro w' _; go_simp; (try with_reducible rfl))
  try simp only [Act.put, List.setIfInBounds_toArray, List.set_cons_zero, List.set_cons_succ]
  refine wpAnyH_take (i := 2) (oi := ⟨some 22, _, _, _, _, _⟩) (v := ?v3) rfl (by kernel_rfl) (by kernel_rfl) (by kernel_rfl) (fun _ _ _ h => h) (Or.inl ⟨rfl, ?c3⟩) hH ?r3
  case c3 => (intro w' _; go_simp; (try with_reducible rfl))
  try simp only [Act.put, List.setIfInBounds_toArray, List.set_cons_zero, List.set_cons_succ]
  refine wpAnyH_take (i := 3) (oi := ⟨some 23, _, _, _, _, _⟩) (v := ?v4) rfl (by kernel_rfl) (by kernel_rfl) (by kernel_rfl) (fun _ _ _ h => h) (Or.inl ⟨rfl, ?c4⟩) hH ?r4
  case c4 => (intro w' _; go_simp; (try with_reducible rfl))
  try simp only [Act.put, List.setIfInBounds_toArray, List.set_cons_zero, List.set_cons_succ]
  refine wpAnyH_take (i := 4) (oi := ⟨some 24, _, _, _, _, _⟩) (v := ?v5) rfl (by kernel_rfl) (by kernel_rfl) (by kernel_rfl) (fun _ _ _ h => h) (Or.inl ⟨rfl, ?c5⟩) hH ?r5
  case c5 => (intro w' _; go_simp; (try with_reducible rfl))
  try simp only [Act.put, List.setIfInBounds_toArray, List.set_cons_zero, List.set_cons_succ]
  refine wpAnyH_take (i := 7) (oi := ⟨some 27, _, _, _, _, _⟩) (v := ?v6) rfl (by kernel_rfl) (by kernel_rfl) (by kernel_rfl) (fun _ _ _ h => h) (Or.inl ⟨rfl, ?c6⟩) hH ?r6
  case c6 => (intro w' _; go_simp; (try with_reducible rfl))
  try simp only [Act.put, List.setIfInBounds_toArray, List.set_cons_zero, List.set_cons_succ]
  refine wpAnyH_take (i := 8) (oi := ⟨some 28, _, _, _, _, _⟩) (v := ?v7) rfl (by kernel_rfl) (by kernel_rfl) (by kernel_rfl) (fun _ _ _ h => h) (Or.inl ⟨rfl, ?c7⟩) hH ?r7
  case c7 => (intro w' _; go_simp; (try with_reducible rfl))
  try simp only [Act.put, List.setIfInBounds_toArray, List.set_cons_zero, List.set_cons_succ]
  refine wpAnyH_ready (rs := [5]) (by kernel_rfl) (by simp) (AllReadyH.cons rfl (fun K hK => ?_) (AllReadyH.nil))
  have c9 := HH.out.drew.at_ 22 _ rfl
  go_simp
  clear c9
  refine hK.out _ _ (trivial) (fun hH => ?_)
  clear hK K
  try simp only [Act.put, List.setIfInBounds_toArray, List.set_cons_zero, List.set_cons_succ]
  refine wpAnyH_take (i := 6) (oi := ⟨some 26, _, _, _, _, _⟩) (v := ?v8) rfl (by kernel_rfl) (by kernel_rfl) (by kernel_rfl) (fun _ _ _ h => h) (Or.inl ⟨rfl, ?c8⟩) hH ?r8
  case c8 => (intro w' _; go_simp; (try with_reducible rfl))
  try simp only [Act.put, List.setIfInBounds_toArray, List.set_cons_zero, List.set_cons_succ]
  refine wpAnyH_take (i := 9) (oi := ⟨some 29, _, _, _, _, _⟩) (v := ?v9) rfl (by kernel_rfl) (by kernel_rfl) (by kernel_rfl) (fun _ _ _ h => h) (Or.inl ⟨rfl, ?c9⟩) hH ?r9
  case c9 => (intro w' _; go_simp; (try with_reducible rfl))
  try simp only [Act.put, List.setIfInBounds_toArray, List.set_cons_zero, List.set_cons_succ]
  refine wpAnyH_ready (rs := [10]) (by kernel_rfl) (by simp) (AllReadyH.cons rfl (fun K hK => ?_) (AllReadyH.nil))
  have f9 := HH.out.drew.blk.frozen 22
  have c9 := HH.out.drew.at_ 22 _ rfl
  go_simp
  clear f9 c9
  refine hK.out _ _ (trivial) (fun hH => ?_)
  clear hK K
  try simp only [Act.put, List.setIfInBounds_toArray, List.set_cons_zero, List.set_cons_succ]
  refine wpAnyH_done (by kernel_rfl) ?_ _
  clear hH
  go_wp2_with fail
  go_end0
  have HS := HH.out.drew.set 22 (.int .u64 (t 2 + 1)) (N' := N) (T' := T) (x' := x) (t' := tlN t 2) (by simp [tlN])
  exact ⟨rfl, HS, ((Only.refl O w).next (Below.refl _ w).drew).setCell (.inl HH.out.ob) _⟩

set_option maxHeartbeats 1000000 in
theorem count_3 (H : Raw w O B M N T x li rl fs t) (ht : 0 ≤ t 3 ∧ t 3 < 18446744073709551616) (hm : t 3 ≠ 18446744073709551615) :
    Calls Tryz.prog 18 #[ptr B, .int .i64 3] w fun e w' => e = .returned (.tuple #[]) ∧ Raw w' O B M N T x li rl fs (tlN t 3) ∧ Only O w w' := by
  have cj := H.at_ 23 _ rfl
  have HH := Lib.hid H
  have HV := Lib.hid (fun W => verdict_any 3 W)
  have dm : (t 3 == 18446744073709551615) = false := by simpa using hm
  have hw : IntKind.u64.wrap (t 3 + 1) = t 3 + 1 := by simp [IntKind.wrap, IntKind.bits, IntKind.signed]; omega
  clear H hm ht
  go_enter Tryz.func18, Tryz.ntmps18
  go_wp2_with fail
  go_at_call 35
  refine (HV.out _).mono ?_
  rintro e w' ⟨rfl, rfl⟩
  go_wp2_with fail
  refine wp_region_held_drew (S := fun _ => True) (by kernel_rfl) (trivial) (fun hH => ?_)
  refine wpAnyH_take (i := 0) (oi := ⟨some 20, _, _, _, _, _⟩) (v := ?v1) rfl (by kernel_rfl) (by kernel_rfl) (by kernel_rfl) (fun _ _ _ h => h) (Or.inl ⟨rfl, ?c1⟩) hH ?r1
  case c1 => (intro w' _; go_simp; (try with_reducible rfl))
  try simp only [Act.put, List.setIfInBounds_toArray, List.set_cons_zero, List.set_cons_succ]
  refine wpAnyH_take (i := 1) (oi := ⟨some 21, _, _, _, _, _⟩) (v := ?v2) rfl (by kernel_rfl) (by kernel_rfl) (by kernel_rfl) (fun _ _ _ h => h) (Or.inl ⟨rfl, ?c2⟩) hH ?r2
  case c2 => (intro w' _; go_simp; (try with_reducible rfl))
  try simp only [Act.put, List.setIfInBounds_toArray, List.set_cons_zero, List.set_cons_succ]
  refine wpAnyH_take (i := 2) (oi := ⟨some 22, _, _, _, _, _⟩) (v := ?v3) rfl (by kernel_rfl) (by kernel_rfl) (by kernel_rfl) (fun _ _ _ h => h) (Or.inl ⟨rfl, ?c3⟩) hH ?r3
  case c3 => (intro w' _; go_simp; (try with_reducible rfl))
  try simp only [Act.put, List.setIfInBounds_toArray, List.set_cons_zero, List.set_cons_succ]
  refine wpAnyH_take (i := 3) (oi := ⟨some 23, _, _, _, _, _⟩) (v := ?v4) rfl (by kernel_rfl) (by kernel_rfl) (by kernel_rfl) (fun _ _ _ h => h) (Or.inl ⟨rfl, ?c4⟩) hH ?r4
  case c4 => (intro w' _; go_simp; (try with_reducible rfl))
  try simp only [Act.put, List.setIfInBounds_toArray, List.set_cons_zero, List.set_cons_succ]
  refine wpAnyH_take (i := 4) (oi := ⟨some 24, _, _, _, _, _⟩) (v := ?v5) rfl (by kernel_rfl) (by kernel_rfl) (by kernel_rfl) (fun _ _ _ h => h) (Or.inl ⟨rfl, ?c5⟩) hH ?r5
  case c5 => (intro w' _; go_simp; (try with_reducible rfl))
  try simp only [Act.put, List.setIfInBounds_toArray, List.set_cons_zero, List.set_cons_succ]
  refine wpAnyH_take (i := 7) (oi := ⟨some 27, _, _, _, _, _⟩) (v := ?v6) rfl (by kernel_rfl) (by kernel_rfl) (by kernel_rfl) (fun _ _ _ h => h) (Or.inl ⟨rfl, ?c6⟩) hH ?r6
  case c6 => (intro w' _; go_simp; (try with_reducible rfl))
  try simp only [Act.put, List.setIfInBounds_toArray, List.set_cons_zero, List.set_cons_succ]
  refine wpAnyH_take (i := 8) (oi := ⟨some 28, _, _, _, _, _⟩) (v := ?v7) rfl (by kernel_rfl) (by kernel_rfl) (by kernel_rfl) (fun _ _ _ h => h) (Or.inl ⟨rfl, ?c7⟩) hH ?r7
  case c7 => (intro w' _; go_simp; (try with_reducible rfl))
  try simp only [Act.put, List.setIfInBounds_toArray, List.set_cons_zero, List.set_cons_succ]
  refine wpAnyH_ready (rs := [5]) (by kernel_rfl) (by simp) (AllReadyH.cons rfl (fun K hK => ?_) (AllReadyH.nil))
  have c9 := HH.out.drew.at_ 23 _ rfl
  go_simp
  clear c9
  refine hK.out _ _ (trivial) (fun hH => ?_)
  clear hK K
  try simp only [Act.put, List.setIfInBounds_toArray, List.set_cons_zero, List.set_cons_succ]
  refine wpAnyH_take (i := 6) (oi := ⟨some 26, _, _, _, _, _⟩) (v := ?v8) rfl (by kernel_rfl) (by kernel_rfl) (by kernel_rfl) (fun _ _ _ h => h) (Or.inl ⟨rfl, ?c8⟩) hH ?r8
  case c8 => (intro w' _; go_simp; (try with_reducible rfl))
  try simp only [Act.put, List.setIfInBounds_toArray, List.set_cons_zero, List.set_cons_succ]
  refine wpAnyH_take (i := 9) (oi := ⟨some 29, _, _, _, _, _⟩) (v := ?v9) rfl (by kernel_rfl) (by kernel_rfl) (by kernel_rfl) (fun _ _ _ h => h) (Or.inl ⟨rfl, ?c9⟩) hH ?r9
  case c9 => (intro w' _; go_simp; (try with_reducible rfl))
  try simp only [Act.put, List.setIfInBounds_toArray, List.set_cons_zero, List.set_cons_succ]
  refine wpAnyH_ready (rs := [10]) (by kernel_rfl) (by simp) (AllReadyH.cons rfl (fun K hK => ?_) (AllReadyH.nil))
  have f9 := HH.out.drew.blk.frozen 23
  have c9 := HH.out.drew.at_ 23 _ rfl
  go_simp
  clear f9 c9
  refine hK.out _ _ (trivial) (fun hH => ?_)
  clear hK K
  try simp only [Act.put, List.setIfInBounds_toArray, List.set_cons_zero, List.set_cons_succ]
  refine wpAnyH_done (by kernel_rfl) ?_ _
  clear hH
  go_wp2_with fail
  go_end0
  have HS := HH.out.drew.set 23 (.int .u64 (t 3 + 1)) (N' := N) (T' := T) (x' := x) (t' := tlN t 3) (by simp [tlN])
  exact ⟨rfl, HS, ((Only.refl O w).next (Below.refl _ w).drew).setCell (.inl HH.out.ob) _⟩

set_option maxHeartbeats 1000000 in
theorem count_4 (H : Raw w O B M N T x li rl fs t) (ht : 0 ≤ t 4 ∧ t 4 < 18446744073709551616) (hm : t 4 ≠ 18446744073709551615) :
    Calls Tryz.prog 18 #[ptr B, .int .i64 4] w fun e w' => e = .returned (.tuple #[]) ∧ Raw w' O B M N T x li rl fs (tlN t 4) ∧ Only O w w' := by
  have cj := H.at_ 24 _ rfl
  have HH := Lib.hid H
  have HV := Lib.hid (fun W => verdict_any 4 W)
  have dm : (t 4 == 18446744073709551615) = false := by simpa using hm
  have hw : IntKind.u64.wrap (t 4 + 1) = t 4 + 1 := by simp [IntKind.wrap, IntKind.bits, IntKind.signed]; omega
  clear H hm ht
  go_enter Tryz.func18, Tryz.ntmps18
  go_wp2_with fail
  go_at_call 35
  refine (HV.out _).mono ?_
  rintro e w' ⟨rfl, rfl⟩
  go_wp2_with fail
  refine wp_region_held_drew (S := fun _ => True) (by kernel_rfl) (trivial) (fun hH => ?_)
  refine wpAnyH_take (i := 0) (oi := ⟨some 20, _, _, _, _, _⟩) (v := ?v1) rfl (by kernel_rfl) (by kernel_rfl) (by kernel_rfl) (fun _ _ _ h => h) (Or.inl ⟨rfl, ?c1⟩) hH ?r1
  case c1 => (intro w' _; go_simp; (try with_reducible rfl))
  try simp only [Act.put, List.setIfInBounds_toArray, List.set_cons_zero, List.set_cons_succ]
  refine wpAnyH_take (i := 1) (oi := ⟨some 21, _, _, _, _, _⟩) (v := ?v2) rfl (by kernel_rfl) (by kernel_rfl) (by kernel_rfl) (fun _ _ _ h => h) (Or.inl ⟨rfl, ?c2⟩) hH ?r2
  case c2 => (intro w' _; go_simp; (try with_reducible rfl))
  try simp only [Act.put, List.setIfInBounds_toArray, List.set_cons_zero, List.set_cons_succ]
  refine wpAnyH_take (i := 2) (oi := ⟨some 22, _, _, _, _, _⟩) (v := ?v3) rfl (by kernel_rfl) (by kernel_rfl) (by kernel_rfl) (fun _ _ _ h => h) (Or.inl ⟨rfl, ?c3⟩) hH ?r3
  case c3 => (intro w' _; go_simp; (try with_reducible rfl))
  try simp only [Act.put, List.setIfInBounds_toArray, List.set_cons_zero, List.set_cons_succ]
  refine wpAnyH_take (i := 3) (oi := ⟨some 23, _, _, _, _, _⟩) (v := ?v4) rfl (by kernel_rfl) (by kernel_rfl) (by kernel_rfl) (fun _ _ _ h => h) (Or.inl ⟨rfl, ?c4⟩) hH ?r4
  case c4 => (intro w' _; go_simp; (try with_reducible rfl))
  try simp only [Act.put, List.setIfInBounds_toArray, List.set_cons_zero, List.set_cons_succ]
  refine wpAnyH_take (i := 4) (oi := ⟨some 24, _, _, _, _, _⟩) (v := ?v5) rfl (by kernel_rfl) (by kernel_rfl) (by kernel_rfl) (fun _ _ _ h => h) (Or.inl ⟨rfl, ?c5⟩) hH ?r5
  case c5 => (intro w' _; go_simp; (try with_reducible rfl))
  try simp only [Act.put, List.setIfInBounds_toArray, List.set_cons_zero, List.set_cons_succ]
  refine wpAnyH_take (i := 7) (oi := ⟨some 27, _, _, _, _, _⟩) (v := ?v6) rfl (by kernel_rfl) (by kernel_rfl) (by kernel_rfl) (fun _ _ _ h => h) (Or.inl ⟨rfl, ?c6⟩) hH ?r6
  case c6 => (intro w' _; go_simp; (try with_reducible rfl))
  try simp only [Act.put, List.setIfInBounds_toArray, List.set_cons_zero, List.set_cons_succ]
  refine wpAnyH_take (i := 8) (oi := ⟨some 28, _, _, _, _, _⟩) (v := ?v7) rfl (by kernel_rfl) (by kernel_rfl) (by kernel_rfl) (fun _ _ _ h => h) (Or.inl ⟨rfl, ?c7⟩) hH ?r7
  case c7 => (intro w' _; go_simp; (try with_reducible rfl))
  try simp only [Act.put, List.setIfInBounds_toArray, List.set_cons_zero, List.set_cons_succ]
  refine wpAnyH_ready (rs := [5]) (by kernel_rfl) (by simp) (AllReadyH.cons rfl (fun K hK => ?_) (AllReadyH.nil))
  have c9 := HH.out.drew.at_ 24 _ rfl
  go_simp
  clear c9
  refine hK.out _ _ (trivial) (fun hH => ?_)
  clear hK K
  try simp only [Act.put, List.setIfInBounds_toArray, List.set_cons_zero, List.set_cons_succ]
  refine wpAnyH_take (i := 6) (oi := ⟨some 26, _, _, _, _, _⟩) (v := ?v8) rfl (by kernel_rfl) (by kernel_rfl) (by kernel_rfl) (fun _ _ _ h => h) (Or.inl ⟨rfl, ?c8⟩) hH ?r8
  case c8 => (intro w' _; go_simp; (try with_reducible rfl))
  try simp only [Act.put, List.setIfInBounds_toArray, List.set_cons_zero, List.set_cons_succ]
  refine wpAnyH_take (i := 9) (oi := ⟨some 29, _, _, _, _, _⟩) (v := ?v9) rfl (by kernel_rfl) (by kernel_rfl) (by kernel_rfl) (fun _ _ _ h => h) (Or.inl ⟨rfl, ?c9⟩) hH ?r9
  case c9 => (intro w' _; go_simp; (try with_reducible rfl))
  try simp only [Act.put, List.setIfInBounds_toArray, List.set_cons_zero, List.set_cons_succ]
  refine wpAnyH_ready (rs := [10]) (by kernel_rfl) (by simp) (AllReadyH.cons rfl (fun K hK => ?_) (AllReadyH.nil))
  have f9 := HH.out.drew.blk.frozen 24
  have c9 := HH.out.drew.at_ 24 _ rfl
  go_simp
  clear f9 c9
  refine hK.out _ _ (trivial) (fun hH => ?_)
  clear hK K
  try simp only [Act.put, List.setIfInBounds_toArray, List.set_cons_zero, List.set_cons_succ]
  refine wpAnyH_done (by kernel_rfl) ?_ _
  clear hH
  go_wp2_with fail
  go_end0
  have HS := HH.out.drew.set 24 (.int .u64 (t 4 + 1)) (N' := N) (T' := T) (x' := x) (t' := tlN t 4) (by simp [tlN])
  exact ⟨rfl, HS, ((Only.refl O w).next (Below.refl _ w).drew).setCell (.inl HH.out.ob) _⟩

set_option maxHeartbeats 1000000 in
theorem count_5 (H : Raw w O B M N T x li rl fs t) (ht : 0 ≤ t 5 ∧ t 5 < 18446744073709551616) (hm : t 5 ≠ 18446744073709551615) :
    Calls Tryz.prog 18 #[ptr B, .int .i64 5] w fun e w' => e = .returned (.tuple #[]) ∧ Raw w' O B M N T x li rl fs (tlN t 5) ∧ Only O w w' := by
  have cj := H.at_ 25 _ rfl
  have HH := Lib.hid H
  have HV := Lib.hid (fun W => verdict_any 5 W)
  have dm : (t 5 == 18446744073709551615) = false := by simpa using hm
  have hw : IntKind.u64.wrap (t 5 + 1) = t 5 + 1 := by simp [IntKind.wrap, IntKind.bits, IntKind.signed]; omega
  clear H hm ht
  go_enter Tryz.func18, Tryz.ntmps18
  go_wp2_with fail
  go_at_call 35
  refine (HV.out _).mono ?_
  rintro e w' ⟨rfl, rfl⟩
  go_wp2_with fail
  refine wp_region_held_drew (S := fun _ => True) (by kernel_rfl) (trivial) (fun hH => ?_)
  refine wpAnyH_take (i := 0) (oi := ⟨some 20, _, _, _, _, _⟩) (v := ?v1) rfl (by kernel_rfl) (by kernel_rfl) (by kernel_rfl) (fun _ _ _ h => h) (Or.inl ⟨rfl, ?c1⟩) hH ?r1
  case c1 => (intro w' _; go_simp; (try with_reducible rfl))
  try simp only [Act.put, List.setIfInBounds_toArray, List.set_cons_zero, List.set_cons_succ]
  refine wpAnyH_take (i := 1) (oi := ⟨some 21, _, _, _, _, _⟩) (v := ?v2) rfl (by kernel_rfl) (by kernel_rfl) (by kernel_rfl) (fun _ _ _ h => h) (Or.inl ⟨rfl, ?c2⟩) hH ?r2
  case c2 => (intro w' _; go_simp; (try with_reducible rfl))
  try simp only [Act.put, List.setIfInBounds_toArray, List.set_cons_zero, List.set_cons_succ]
  refine wpAnyH_take (i := 2) (oi := ⟨some 22, _, _, _, _, _⟩) (v := ?v3) rfl (by kernel_rfl) (by kernel_rfl) (by kernel_rfl) (fun _ _ _ h => h) (Or.inl ⟨rfl, ?c3⟩) hH ?r3
  case c3 => (intro w' _; go_simp; (try with_reducible rfl))
  try simp only [Act.put, List.setIfInBounds_toArray, List.set_cons_zero, List.set_cons_succ]
  refine wpAnyH_take (i := 3) (oi := ⟨some 23, _, _, _, _, _⟩) (v := ?v4) rfl (by kernel_rfl) (by kernel_rfl) (by kernel_rfl) (fun _ _ _ h => h) (Or.inl ⟨rfl, ?c4⟩) hH ?r4
  case c4 => (intro w' _; go_simp; (try with_reducible rfl))
  try simp only [Act.put, List.setIfInBounds_toArray, List.set_cons_zero, List.set_cons_succ]
  refine wpAnyH_take (i := 4) (oi := ⟨some 24, _, _, _, _, _⟩) (v := ?v5) rfl (by kernel_rfl) (by kernel_rfl) (by kernel_rfl) (fun _ _ _ h => h) (Or.inl ⟨rfl, ?c5⟩) hH ?r5
  case c5 => (intro w' _; go_simp; (try with_reducible rfl))
  try simp only [Act.put, List.setIfInBounds_toArray, List.set_cons_zero, List.set_cons_succ]
  refine wpAnyH_take (i := 7) (oi := ⟨some 27, _, _, _, _, _⟩) (v := ?v6) rfl (by kernel_rfl) (by kernel_rfl) (by kernel_rfl) (fun _ _ _ h => h) (Or.inl ⟨rfl, ?c6⟩) hH ?r6
  case c6 => (intro w' _; go_simp; (try with_reducible rfl))
  try simp only [Act.put, List.setIfInBounds_toArray, List.set_cons_zero, List.set_cons_succ]
  refine wpAnyH_take (i := 8) (oi := ⟨some 28, _, _, _, _, _⟩) (v := ?v7) rfl (by kernel_rfl) (by kernel_rfl) (by kernel_rfl) (fun _ _ _ h => h) (Or.inl ⟨rfl, ?c7⟩) hH ?r7
  case c7 => (intro w' _; go_simp; (try with_reducible rfl))
  try simp only [Act.put, List.setIfInBounds_toArray, List.set_cons_zero, List.set_cons_succ]
  refine wpAnyH_ready (rs := [5]) (by kernel_rfl) (by simp) (AllReadyH.cons rfl (fun K hK => ?_) (AllReadyH.nil))
  have c9 := HH.out.drew.at_ 25 _ rfl
  go_simp
  clear c9
  refine hK.out _ _ (trivial) (fun hH => ?_)
  clear hK K
  try simp only [Act.put, List.setIfInBounds_toArray, List.set_cons_zero, List.set_cons_succ]
  refine wpAnyH_take (i := 6) (oi := ⟨some 26, _, _, _, _, _⟩) (v := ?v8) rfl (by kernel_rfl) (by kernel_rfl) (by kernel_rfl) (fun _ _ _ h => h) (Or.inl ⟨rfl, ?c8⟩) hH ?r8
  case c8 => (intro w' _; go_simp; (try with_reducible rfl))
  try simp only [Act.put, List.setIfInBounds_toArray, List.set_cons_zero, List.set_cons_succ]
  refine wpAnyH_take (i := 9) (oi := ⟨some 29, _, _, _, _, _⟩) (v := ?v9) rfl (by kernel_rfl) (by kernel_rfl) (by kernel_rfl) (fun _ _ _ h => h) (Or.inl ⟨rfl, ?c9⟩) hH ?r9
  case c9 => (intro w' _; go_simp; (try with_reducible rfl))
  try simp only [Act.put, List.setIfInBounds_toArray, List.set_cons_zero, List.set_cons_succ]
  refine wpAnyH_ready (rs := [10]) (by kernel_rfl) (by simp) (AllReadyH.cons rfl (fun K hK => ?_) (AllReadyH.nil))
  have f9 := HH.out.drew.blk.frozen 25
  have c9 := HH.out.drew.at_ 25 _ rfl
  go_simp
  clear f9 c9
  refine hK.out _ _ (trivial) (fun hH => ?_)
  clear hK K
  try simp only [Act.put, List.setIfInBounds_toArray, List.set_cons_zero, List.set_cons_succ]
  refine wpAnyH_done (by kernel_rfl) ?_ _
  clear hH
  go_wp2_with fail
  go_end0
  have HS := HH.out.drew.set 25 (.int .u64 (t 5 + 1)) (N' := N) (T' := T) (x' := x) (t' := tlN t 5) (by simp [tlN])
  exact ⟨rfl, HS, ((Only.refl O w).next (Below.refl _ w).drew).setCell (.inl HH.out.ob) _⟩
end
section
variable {w : World} {O : Nat → Prop} {B M : Nat} {N : Int} {T : Nat → Int} {s : St}
theorem count_p (H : PAt w O B M N T s) (v : Int) :
    Calls Tryz.prog 18 #[ptr B, .int .i64 v] w fun e w' => e = .returned (.tuple #[]) ∧ PAt w' O B M N T (countS s v) ∧ Only O w w' := by
  have hd := H.2.1.count v
  obtain ⟨⟨li, H⟩, hi, htm, hN⟩ := H
  have HV := Lib.hid (fun W => verdict_any v W)
  unfold countS at hd ⊢
  by_cases h : 1 ≤ v ∧ v ≤ 5
  · by_cases hm : s.tl v.toNat ≠ 18446744073709551615
    · rw [if_pos ⟨h.1, h.2, hm⟩] at hd ⊢
      obtain rfl | rfl | rfl | rfl | rfl : v = 1 ∨ v = 2 ∨ v = 3 ∨ v = 4 ∨ v = 5 := by omega
      · exact (count_1 H (hi.tl _) hm).mono fun e w' ⟨he, hr, ho⟩ => ⟨he, ⟨⟨li, hr⟩, hd, htm, hN⟩, ho⟩
      · exact (count_2 H (hi.tl _) hm).mono fun e w' ⟨he, hr, ho⟩ => ⟨he, ⟨⟨li, hr⟩, hd, htm, hN⟩, ho⟩
      · exact (count_3 H (hi.tl _) hm).mono fun e w' ⟨he, hr, ho⟩ => ⟨he, ⟨⟨li, hr⟩, hd, htm, hN⟩, ho⟩
      · exact (count_4 H (hi.tl _) hm).mono fun e w' ⟨he, hr, ho⟩ => ⟨he, ⟨⟨li, hr⟩, hd, htm, hN⟩, ho⟩
      · exact (count_5 H (hi.tl _) hm).mono fun e w' ⟨he, hr, ho⟩ => ⟨he, ⟨⟨li, hr⟩, hd, htm, hN⟩, ho⟩
    · rw [if_neg (fun e => hm e.2.2)] at hd ⊢
      have hm : s.tl v.toNat = 18446744073709551615 := Decidable.not_not.1 hm
      rw [decide_eq_true h] at HV
      have c21 := H.at_ 21 (.int .u64 (s.tl 1)) rfl
      have c22 := H.at_ 22 (.int .u64 (s.tl 2)) rfl
      have c23 := H.at_ 23 (.int .u64 (s.tl 3)) rfl
      have c24 := H.at_ 24 (.int .u64 (s.tl 4)) rfl
      have c25 := H.at_ 25 (.int .u64 (s.tl 5)) rfl
      have HH := Lib.hid H
      have HI := Lib.hid hi
      have HD := Lib.hid hd
      obtain rfl | rfl | rfl | rfl | rfl : v = 1 ∨ v = 2 ∨ v = 3 ∨ v = 4 ∨ v = 5 := by omega
      all_goals
        first | (have hm1 : s.tl 1 = 18446744073709551615 := hm; rw [hm1] at c21) | (have hm1 : s.tl 2 = 18446744073709551615 := hm; rw [hm1] at c22) | (have hm1 : s.tl 3 = 18446744073709551615 := hm; rw [hm1] at c23) | (have hm1 : s.tl 4 = 18446744073709551615 := hm; rw [hm1] at c24) | (have hm1 : s.tl 5 = 18446744073709551615 := hm; rw [hm1] at c25)
        clear H hi h hd
        have dm : (18446744073709551615 == (18446744073709551615 : Int)) = true := by rfl
        clear hm
        go_enter Tryz.func18, Tryz.ntmps18
        go_wp2_with fail
        go_at_call 35
        refine (HV.out _).mono ?_
        rintro e w' ⟨rfl, rfl⟩
        go_wp2_with fail
        exact bodyPost_ret (results_none rfl _ _ _) rfl ⟨rfl, ⟨⟨li, HH.out⟩, HI.out, htm, hN⟩, Only.refl _ _⟩
  · rw [if_neg (fun e => h ⟨e.1, e.2.1⟩)] at hd ⊢
    rw [decide_eq_false h] at HV
    have HH := Lib.hid H
    have HI := Lib.hid hi
    clear H hi h hd
    go_enter Tryz.func18, Tryz.ntmps18
    go_wp2_with fail
    go_at_call 35
    refine (HV.out _).mono ?_
    rintro e w' ⟨rfl, rfl⟩
    go_wp2_with fail
    exact bodyPost_ret (results_none rfl _ _ _) rfl ⟨rfl, ⟨⟨li, HH.out⟩, HI.out, htm, hN⟩, Only.refl _ _⟩
end

end Au
end Go.Proofs.YtgcnhbjoalemlaaGreatDoor
/- Layer 18: the contract of Swap. -/
set_option linter.unusedVariables false
set_option linter.unusedSimpArgs false
set_option maxRecDepth 100000
namespace Go.Proofs.YtgcnhbjoalemlaaGreatDoor
open Go.ChangeShapes Go.WideShapes Go.ChangeAt Go.RowKit Go.Mtl Go.Lib
namespace Au
open AutM
open RulM (R)

theorem field0 (a b c : Value) (w : World) : (Instr.field 77 (.agg #[a, b, c]) 0).run Tryz.prog w = .ok a w := by kernel_rfl
theorem swapV_bad {s : St} {rs : List R} (h : fitE rs ≠ 0) : swapV s rs = (0, fitE rs) ∧ swapS s rs = s := by
  have e : swapV s rs = (0, fitE rs) := if_pos h
  exact ⟨e, by unfold swapS; rw [e, if_neg h]⟩
theorem swapV_top {s : St} {rs : List R} (h : fitE rs = 0) (hv : s.v = 4095) : swapV s rs = (0, 2) ∧ swapS s rs = s := by
  have e : swapV s rs = (0, 2) := by unfold swapV; rw [if_neg (fun e => e h), if_pos hv]
  exact ⟨e, by unfold swapS; rw [e, if_neg (by omega)]⟩
theorem swapV_yes {s : St} {rs : List R} (h : fitE rs = 0) (hv : s.v ≠ 4095) : swapV s rs = (s.v + 1, 0) ∧ swapS s rs = { s with v := s.v + 1, rl := rs } := by
  have e : swapV s rs = (s.v + 1, 0) := by unfold swapV; rw [if_neg (fun e => e h), if_neg hv]
  exact ⟨e, by unfold swapS; rw [e, if_pos rfl]⟩
section
variable {w : World} {O : Nat → Prop} {B M : Nat} {N : Int} {T : Nat → Int} {s : St}
set_option maxHeartbeats 1000000 in
theorem swap_p (H : PAt w O B M N T s) (he : Env w) (A : Option Addr) (n c : Nat) (rs : List R) (hn : rs.length = n) (hr : Rds w w.heap.size (.slice A n c) rs) (ho : ∀ r ∈ rs, r.Ok) (hm : n ≤ 100000) (hA : 0 < rs.length → ∀ a n' c', Value.slice A n c = .slice (some a) n' c' → ¬ O a.block) :
    Calls Tryz.prog 24 #[ptr B, .slice A n c] w fun e w' => ∃ O' : Nat → Prop, e = .returned (.tuple #[.int .i64 (swapV s rs).1, .int .i64 (swapV s rs).2]) ∧ PAt w' O' B M N T (swapS s rs) ∧ Only O w w' ∧ ∀ j, O' j → O j ∨ w.heap.size ≤ j := by
  have hd := H.2.1.swap ho
  obtain ⟨⟨li, H⟩, hi, htm, hN⟩ := H
  have HC := Lib.hid (check_any A n c rs w he hn hr ho)
  by_cases hf : fitE rs = 0
  · by_cases hv : s.v = 4095
    · obtain ⟨e1, e2⟩ := swapV_top hf hv
      rw [e1, e2]
      rw [hf] at HC
      obtain ⟨x, hx⟩ : ∃ x, x = GatM.gI s.c s.g s.v := ⟨_, rfl⟩
      have HSW : Hid (∀ W, Env W → Calls Tryz.prog 52 #[.int .u64 x] W fun e w' => e = .returned (.tuple #[.int .u64 x, .bool false]) ∧ Below W.heap.size W w') := fun W e => by
        rw [hx]; exact Ga.swap_any hi.fit (.inr ⟨rfl, rfl, hv⟩) W e.ga
      have HMK : Hid (∀ W, Raw W O B M N T x li s.rl s.fs s.tl → PAt W O B M N T s) := fun W h => ⟨⟨li, hx ▸ h⟩, hi, htm, hN⟩
      rw [← hx] at H
      have HH := Lib.hid H
      have HE := Lib.hid he
      clear H hi hd e1 e2 hf hv hx he hn hr ho hm
      go_enter Tryz.func24, Tryz.ntmps24
      go_wp2_with fail
      go_at_call 22
      refine HC.out.mono ?_
      rintro e w1 ⟨rfl, hb⟩
      have HB := Lib.hid hb
      have c17 := (HH.out.next hb).at_ 17 _ rfl
      clear hb
      go_wp2_with fail
      go_at_call 52
      refine (HSW.out _ (HE.out.below HB.out)).mono ?_
      rintro e w2 ⟨rfl, hb⟩
      have HB2 := Lib.hid (below_then HB.out hb)
      clear hb c17
      go_wp2_with fail
      go_ret2
      exact ⟨O, rfl, HMK.out _ (HH.out.next HB2.out), Only.of_below HB2.out, fun j hj => .inl hj⟩
    · obtain ⟨e1, e2⟩ := swapV_yes hf hv
      rw [e2] at hd
      rw [e1, e2]
      rw [hf] at HC
      have hF : GatM.Fit s.c s.g (s.v + 1) := ⟨hi.fit.c0, hi.fit.c1, hi.fit.k0, hi.fit.k1, by have := hi.fit.v0; omega, by have := hi.fit.v1; omega⟩
      have HCL : Hid (∀ W, Only O w W → Calls Tryz.prog 13 #[.slice A n c] W fun e w' => ∃ v, e = .returned v ∧ Rds w' w'.heap.size v rs ∧ (0 < rs.length → ∀ a n c, v = .slice (some a) n c → W.heap.size ≤ a.block) ∧ Below W.heap.size W w') := fun W h =>
        clone_any A n c rs W hn (Rds.only hr h hA) hm
      obtain ⟨x, hx⟩ : ∃ x, x = GatM.gI s.c s.g s.v := ⟨_, rfl⟩
      obtain ⟨y, hy⟩ : ∃ y, y = GatM.gI s.c s.g (s.v + 1) := ⟨_, rfl⟩
      have HSW : Hid (∀ W, Env W → Calls Tryz.prog 52 #[.int .u64 x] W fun e w' => e = .returned (.tuple #[.int .u64 y, .bool true]) ∧ Below W.heap.size W w') := fun W e => by
        rw [hx, hy]; exact Ga.swap_any hi.fit (.inl ⟨rfl, rfl, hv⟩) W e.ga
      have HGT : Hid (∀ W O' li', Raw W O' B M N T y li' rs s.fs s.tl → Env W → Calls Tryz.prog 20 #[ptr B] W fun e w' => e = .returned (.agg (Ga.gtc (s.v + 1) s.g s.c)) ∧ Below W.heap.size W w') := fun W O' li' h e => gate_any (hy ▸ h) hF e
      have HMK : Hid (∀ W O' li', Raw W O' B M N T y li' rs s.fs s.tl → PAt W O' B M N T { s with v := s.v + 1, rl := rs }) := fun W O' li' h => ⟨⟨li', hy ▸ h⟩, hd, htm, hN⟩
      rw [← hx] at H
      have HH := Lib.hid H
      have HE := Lib.hid he
      have HLT := Lib.hid H.lt
      have HOB := Lib.hid H.ob
      have HFAR := Lib.hid H.hi
      clear H hi hd e1 e2 hf hx hy he hn hr ho hm hF hA
      generalize s.v + 1 = v1 at *
      go_enter Tryz.func24, Tryz.ntmps24
      go_wp2_with fail
      go_at_call 22
      refine HC.out.mono ?_
      rintro e w1 ⟨rfl, hb⟩
      have HB := Lib.hid hb
      have c17 := (HH.out.next hb).at_ 17 _ rfl
      clear hb
      go_wp2_with fail
      go_at_call 52
      refine (HSW.out _ (HE.out.below HB.out)).mono ?_
      rintro e w2 ⟨rfl, hb⟩
      have HB2 := Lib.hid (below_then HB.out hb)
      clear hb c17
      have c17 := (HH.out.next HB2.out).at_ 17 _ rfl
      have f17 := (HH.out.next HB2.out).blk.frozen 17
      go_wp2_with fail
      have HR3 := Lib.hid ((HH.out.next HB2.out).word y)
      have HO3 := Lib.hid ((Only.of_below HB2.out : Only O w w2).setCell (p := ⟨B, 17, none⟩) (.inl HOB.out) (.int .u64 y))
      obtain ⟨W3, hW3⟩ : ∃ v, v = w2.setCell ⟨B, 17, none⟩ (.int .u64 y) := ⟨_, rfl⟩
      simp only [← hW3] at *
      clear hW3 c17 f17
      go_at_call 13
      refine (HCL.out W3 HO3.out).mono ?_
      rintro e w4 ⟨v, rfl, hrd, hnew, hb⟩
      obtain ⟨A', c', rfl, -, -⟩ := hrd.len
      have HR4 := Lib.hid (HR3.out.next hb)
      have HO4 := Lib.hid (HO3.out.next hb)
      have c18 := HR4.out.at_ 18 _ rfl
      have f18 := HR4.out.blk.frozen 18
      have HR5 := Lib.hid (HR4.out.list hrd W3.heap.size HR3.out.lt hnew (fun j hj => HE.out.new (Nat.le_trans HO3.out.size hj)))
      have HO5 := Lib.hid (HO4.out.setCell (p := ⟨B, 18, none⟩) (.inl HOB.out) (.slice A' rs.length c'))
      have HNW : Hid (∀ j, (O j ∨ (W3.heap.size ≤ j ∧ j < w4.heap.size)) → O j ∨ w.heap.size ≤ j) := fun j hj => hj.elim .inl fun h => .inr (Nat.le_trans HO3.out.size h.1)
      clear hb hrd hnew
      go_wp2_with fail
      obtain ⟨W5, hW5⟩ : ∃ u, u = w4.setCell ⟨B, 18, none⟩ (.slice A' rs.length c') := ⟨_, rfl⟩
      simp only [← hW5] at *
      clear hW5 c18 f18
      go_at_call 20
      refine (HGT.out W5 _ _ HR5.out (HE.out.only HO5.out HFAR.out)).mono ?_
      rintro e w6 ⟨rfl, hb⟩
      have HR6 := Lib.hid (HMK.out _ _ _ (HR5.out.next hb))
      have HO6 := Lib.hid (HO5.out.next hb)
      have hfd := field0 (.int .i64 v1) (.int .i64 s.g) (.int .i64 s.c) w6
      clear hb
      go_wp2_with fail
      go_ret2
      exact ⟨_, rfl, HR6.out, HO6.out, HNW.out⟩
  · obtain ⟨e1, e2⟩ := swapV_bad (s := s) hf
    rw [e1, e2]
    have dd : (fitE rs != 0) = true := by simpa using hf
    have HMK : Hid (∀ W, Below w.heap.size w W → PAt W O B M N T s) := fun W h => ⟨⟨li, H.next h⟩, hi, htm, hN⟩
    clear H hi hd e1 e2 hf he hn hr ho hm
    go_enter Tryz.func24, Tryz.ntmps24
    go_wp2_with fail
    go_at_call 22
    refine HC.out.mono ?_
    rintro e w1 ⟨rfl, hb⟩
    have HB := Lib.hid hb
    clear hb
    go_wp2_with fail
    go_ret2
    exact ⟨O, rfl, HMK.out _ HB.out, Only.of_below HB.out, fun j hj => .inl hj⟩
end
end Au
end Go.Proofs.YtgcnhbjoalemlaaGreatDoor
/- Layer 18: the contract of Check. -/
set_option linter.unusedVariables false
set_option linter.unusedSimpArgs false
set_option maxRecDepth 100000
namespace Go.Proofs.YtgcnhbjoalemlaaGreatDoor
open Go.ChangeShapes Go.WideShapes Go.ChangeAt Go.RowKit Go.Mtl Go.Lib
namespace Au
open AutM
open RulM (R)
open KeyM (isPow)

theorem count_ones (x : Int) (w : World) : Calls Tryz.prog 21 #[.int .u64 x] w fun e w' => e = .returned (.int .i64 (ones x)) ∧ w = w' := by
  have HO := Lib.hid (fun W => ones_any x W)
  generalize ones x = y at HO
  go_enter Tryz.func21, Tryz.ntmps21
  go_wp2_with (go_at_call 49; refine (HO.out _).mono ?_; rintro e w' ⟨rfl, rfl⟩)
  go_ret
  exact ⟨rfl, rfl⟩
/-- A config's cells. -/
abbrev cfc (z N : Int) (T : Nat → Int) : Array Value := #[.int .i64 z, .int .i64 N, .int .i64 (T 0), .int .i64 (T 1), .int .i64 (T 2), .int .i64 (T 3), .int .i64 (T 4), .int .i64 (T 5), .int .i64 (T 6), .int .i64 (T 7), .int .i64 (T 8), .int .i64 (T 9), .int .i64 (T 10), .int .i64 (T 11), .int .i64 (T 12), .int .i64 (T 13), .int .i64 (T 14), .int .i64 (T 15)]
/-- What is wrong with a config and rules. -/
def chkB (z N : Int) : Bool := isPow z && (decide (1 ≤ N) && decide (N ≤ 4095))
def chkE (z N : Int) (rs : List R) : Int := if chkB z N then fitE rs else 1
theorem pow_is {z : Int} (h1 : 1 ≤ z) (h2 : z ≤ 4096) : (ones z == 1) = isPow z := by
  have e : z = ((⟨z.toNat, by omega⟩ : Fin 4097).val : Int) := by simp; omega
  have h := ones_pow ⟨z.toNat, by omega⟩
  rwa [← e] at h
section
variable {w : World}
set_option maxHeartbeats 1000000 in
theorem check_p (z N : Int) (T : Nat → Int) (hz : -9223372036854775808 ≤ z ∧ z ≤ 9223372036854775807) (he : Env w) (A : Option Addr) (n c : Nat) (rs : List R) (hn : rs.length = n) (hr : Rds w w.heap.size (.slice A n c) rs) (ho : ∀ r ∈ rs, r.Ok) :
    Calls Tryz.prog 8 #[.agg (cfc z N T), .slice A n c] w fun e w' => e = .returned (.int .i64 (chkE z N rs)) ∧ Below w.heap.size w w' := by
  have HB := Lib.hid (below_box w (.cells (cfc z N T) 24))
  have HC : Hid (∀ W, Below w.heap.size w W → Calls Tryz.prog 22 #[.slice A n c] W fun e w' => e = .returned (.int .i64 (fitE rs)) ∧ Below W.heap.size W w') := fun W h =>
    check_any A n c rs W (he.below h) hn (hr.below h) ho
  have HX := Lib.hid (Blk.box w (cfc z N T) 24)
  have c0 := HX.out.cell 0 _ rfl
  have c1 := HX.out.cell 1 _ rfl
  obtain ⟨V, hV⟩ : ∃ V, V = chkE z N rs := ⟨_, rfl⟩
  rw [← hV]
  have HV := Lib.hid hV
  clear he hn hr ho hV
  by_cases h1 : 1 ≤ z
  · by_cases h2 : z ≤ 4096
    · have HP := Lib.hid (pow_is h1 h2)
      have HO := Lib.hid (fun W => count_ones z W)
      have hw : IntKind.u64.wrap z = z := by simp [IntKind.wrap, IntKind.bits, IntKind.signed]; omega
      generalize ones z = oz at HP HO
      cases hp : isPow z with
      | false =>
        have hv : V = 1 := by rw [HV.out]; unfold chkE chkB; rw [if_neg (by rw [hp]; simp)]
        have hq : (oz == 1) = false := HP.out.trans hp
        clear hp HV
        go_enter Tryz.func8, Tryz.ntmps8
        go_wp2_with fail
        go_at_call 21
        refine (HO.out _).mono ?_
        rintro e w1 ⟨rfl, rfl⟩
        go_wp2_with fail
        go_ret
        exact ⟨by rw [hv]; rfl, HB.out⟩
      | true =>
        have hq : (oz == 1) = true := HP.out.trans hp
        by_cases n1 : 1 ≤ N
        · by_cases n2 : N ≤ 4095
          · have hv : V = fitE rs := by rw [HV.out]; unfold chkE chkB; rw [if_pos (by rw [hp, decide_eq_true n1, decide_eq_true n2]; rfl)]
            have d1 : decide (N < 1) = false := decide_eq_false (by omega)
            have d2 : decide (4095 < N) = false := decide_eq_false (by omega)
            clear hp HV n1 n2
            generalize fitE rs = fe at HC hv
            subst hv
            go_enter Tryz.func8, Tryz.ntmps8
            go_wp2_with fail
            go_at_call 21
            refine (HO.out _).mono ?_
            rintro e w1 ⟨rfl, rfl⟩
            go_wp2_with fail
            go_at_call 22
            refine (HC.out _ HB.out).mono ?_
            rintro e w2 ⟨rfl, hb⟩
            have HB2 := Lib.hid (below_then HB.out hb)
            clear hb c0 c1
            go_wp2_with fail
            go_ret
            exact ⟨rfl, HB2.out⟩
          · have hv : V = 1 := by rw [HV.out]; unfold chkE chkB; rw [if_neg (by rw [decide_eq_false n2]; simp)]
            have d1 : decide (N < 1) = false := decide_eq_false (by omega)
            have d2 : decide (4095 < N) = true := decide_eq_true (by omega)
            clear hp HV n1 n2
            go_enter Tryz.func8, Tryz.ntmps8
            go_wp2_with fail
            go_at_call 21
            refine (HO.out _).mono ?_
            rintro e w1 ⟨rfl, rfl⟩
            go_wp2_with fail
            go_ret
            exact ⟨by rw [hv]; rfl, HB.out⟩
        · have hv : V = 1 := by rw [HV.out]; unfold chkE chkB; rw [if_neg (by rw [decide_eq_false n1]; simp)]
          have d1 : decide (N < 1) = true := decide_eq_true (by omega)
          clear hp HV n1
          go_enter Tryz.func8, Tryz.ntmps8
          go_wp2_with fail
          go_at_call 21
          refine (HO.out _).mono ?_
          rintro e w1 ⟨rfl, rfl⟩
          go_wp2_with fail
          go_ret
          exact ⟨by rw [hv]; rfl, HB.out⟩
    · have hv : V = 1 := by rw [HV.out]; unfold chkE chkB; rw [if_neg (by rw [KeyM.isPow_out (by omega)]; simp)]
      have d2 : decide (z ≤ 4096) = false := decide_eq_false h2
      clear HV h2
      go_enter Tryz.func8, Tryz.ntmps8
      go_wp2_with fail
      go_ret
      exact ⟨by rw [hv]; rfl, HB.out⟩
  · have hv : V = 1 := by rw [HV.out]; unfold chkE chkB; rw [if_neg (by rw [KeyM.isPow_out (by omega)]; simp)]
    have d1 : decide (1 ≤ z) = false := decide_eq_false h1
    clear HV h1
    go_enter Tryz.func8, Tryz.ntmps8
    go_wp2_with fail
    go_ret
    exact ⟨by rw [hv]; rfl, HB.out⟩
end
end Au
end Go.Proofs.YtgcnhbjoalemlaaGreatDoor
/- Layer 18: the contract of New. (Written by wip/tools/mkAutZ.py.) -/
set_option linter.unusedVariables false
set_option linter.unusedSimpArgs false
set_option maxRecDepth 100000
namespace Go.Proofs.YtgcnhbjoalemlaaGreatDoor
open Go.ChangeShapes Go.WideShapes Go.ChangeAt Go.RowKit Go.Mtl Go.Lib
namespace Au
open AutM
open RulM (R)

/-- A firewall that has just been made. -/
def newS (rs : List R) : St := { c := 0, g := 0, v := 0, rl := rs, fs := [], tl := fun _ => 0 }
theorem newS_inv {N : Int} {rs : List R} (h1 : 1 ≤ N) (h2 : N ≤ 4095) (ho : ∀ r ∈ rs, r.Ok) (hl : rs.length ≤ 64) : Inv N (newS rs) :=
  ⟨⟨by show (0 : Int) ≤ 0; omega, by show (0 : Int) < 1099511627776; omega, by show (0 : Int) ≤ 0; omega, by show (0 : Int) < 4096; omega, by show (0 : Int) ≤ 0; omega, by show (0 : Int) < 4096; omega⟩, rfl, by show (0 : Int) ≤ N; omega, h2, Oks.nil, ho, hl, fun _ => ⟨by show (0 : Int) ≤ 0; omega, by show (0 : Int) < 18446744073709551616; omega⟩⟩
theorem chk_ok {z N : Int} {rs : List R} (h : chkE z N rs = 0) : 1 ≤ N ∧ N ≤ 4095 ∧ fitE rs = 0 := by
  unfold chkE chkB at h
  split at h
  · rename_i hb
    simp only [Bool.and_eq_true, decide_eq_true_eq] at hb
    exact ⟨hb.2.1, hb.2.2, h⟩
  · cases h
theorem cfg_size (z N : Int) (T : Nat → Int) : (Tryz.prog.info? 24).map (·.size) = some (cfc z N T).size := (by kernel_rfl : (Tryz.prog.info? 24).map (·.size) = some 18)
theorem six_size (T : Nat → Int) : (Tryz.prog.info? 22).map (·.size) = some (sx T).toList.length := (by kernel_rfl : (Tryz.prog.info? 22).map (·.size) = some 16)
theorem cfg_range {w : World} {g : Nat} {z N : Int} {T : Nat → Int} {t : TypeId} (H : Blk w g (cfc z N T) t) : w.rangeAt g 2 (sx T).toList := by
  intro j v hv
  refine H.cell (2 + j) v ?_
  have hj : j < 16 := (List.getElem?_eq_some_iff.1 hv).1
  obtain rfl | rfl | rfl | rfl | rfl | rfl | rfl | rfl | rfl | rfl | rfl | rfl | rfl | rfl | rfl | rfl : j = 0 ∨ j = 1 ∨ j = 2 ∨ j = 3 ∨ j = 4 ∨ j = 5 ∨ j = 6 ∨ j = 7 ∨ j = 8 ∨ j = 9 ∨ j = 10 ∨ j = 11 ∨ j = 12 ∨ j = 13 ∨ j = 14 ∨ j = 15 := by omega
  all_goals exact hv
theorem take_sixteen {w : World} {g off : Nat} {T : Nat → Int} (h : w.rangeAt g off (sx T).toList) {ρ : Operand → Value} {o : Oper} (x : Operand) (ho : o.op = .load 22 x) (hx : ρ x = .pointer (some ⟨g, off, none⟩)) :
    (execOp ρ o).run Tryz.prog w = .ok (.value (.agg (sx T))) w := by
  unfold execOp
  simp only [ho, hx, Instr.loadAt, Instr.sureAddr, Sem.run_bind, Sem.run_pure, Result.andThen_ok, run_loadVar_mid w g off 22 (sx T).toList _ h Tryz.underlying22 rfl (six_size T)]
theorem _root_.Go.Mtl.Rds.lt_of {w : World} {B : Nat} {v : Value} {rs : List R} (h : Rds w B v rs) (hp : 0 < rs.length) (a : Addr) (n c : Nat) (e : v = .slice (some a) n c) : a.block < B := by
  obtain ⟨A', cap', e2, _, _, h4⟩ := h
  obtain ⟨b, off, e3, hb, _⟩ := h4 hp
  rw [e2] at e; injection e with e; rw [e3] at e; injection e with e; rw [← e]; exact hb
/-- What New has made. -/
theorem new_raw {w0 w : World} {M : Nat} {N : Int} {T : Nat → Int} {A : Option Addr} {c : Nat} {rs : List R} (hrd : Rds w w.heap.size (.slice A rs.length c) rs) (hnew : 0 < rs.length → ∀ a n' c', Value.slice A rs.length c = .slice (some a) n' c' → w0.heap.size ≤ a.block) (hm : MapAt w M []) (hM : w0.heap.size ≤ M)
    (he : Env w0) (hb : Below w0.heap.size w0 w) (hh : 0 < rs.length → ∀ a n' c', Value.slice A rs.length c = .slice (some a) n' c' → a.block ≠ M) (h1 : 1 ≤ N) (h2 : N ≤ 4095) (ho : ∀ r ∈ rs, r.Ok) (hl : rs.length ≤ 64) (htm : ∀ i, -9223372036854775808 ≤ T i ∧ T i ≤ 9223372036854775807) :
    PAt (w.alloc (.cells (acs N T 0 (.slice A rs.length c) (.map (some M)) (fun _ => 0)) 65)) (fun j => w0.heap.size ≤ j ∧ j < w.heap.size + 1) w.heap.size M N T (newS rs) := by
  have hlt := hm.lt
  have hsz := hb.size
  refine ⟨⟨.slice A rs.length c, ?_⟩, newS_inv h1 h2 ho hl, htm, h1⟩
  have e : GatM.gI (newS rs).c (newS rs).g (newS rs).v = 0 := by unfold GatM.gI newS; rfl
  rw [e]
  exact {
    blk := Blk.box _ _ _
    rds := hrd.below (below_box w _)
    own := fun hp a n' c' e => by
      have h3 := hnew hp a n' c' e
      obtain ⟨A', cap', e2, _, _, h4⟩ := hrd
      obtain ⟨b, off, e3, hb, _⟩ := h4 hp
      have e4 : a.block < w.heap.size := by
        rw [e2] at e; injection e with e; rw [e3] at e; injection e with e; rw [← e]; exact hb
      exact ⟨⟨h3, by omega⟩, by omega, hh hp a n' c' e⟩
    map := hm.keep (Below.heap_alloc _ _ _ hlt)
    ne := by omega
    ob := ⟨by omega, by omega⟩
    om := ⟨hM, by omega⟩
    lt := fun j hj => by simp only [World.size_alloc]; exact hj.2
    hi := fun j hj => he.new hj.1 }
set_option maxHeartbeats 2000000 in
theorem new_bad {w : World} (z N : Int) (T : Nat → Int) (hz : -9223372036854775808 ≤ z ∧ z ≤ 9223372036854775807) (htm : ∀ i, -9223372036854775808 ≤ T i ∧ T i ≤ 9223372036854775807) (he : Env w) (A : Option Addr) (n c : Nat) (rs : List R) (hn : rs.length = n) (hr : Rds w w.heap.size (.slice A n c) rs) (ho : ∀ r ∈ rs, r.Ok) (hm : n ≤ 100000) (h0 : chkE z N rs ≠ 0) :
    Calls Tryz.prog 4 #[.agg (cfc z N T), .slice A n c] w fun e w' => e = .returned (.tuple #[.pointer none, .int .i64 (chkE z N rs)]) ∧ Below w.heap.size w w' := by
  have HX := Lib.hid (Blk.box w (cfc z N T) 24)
  have HB := Lib.hid (below_box w (.cells (cfc z N T) 24))
  have HCH : Hid (∀ W, Below w.heap.size w W → Calls Tryz.prog 8 #[.agg (cfc z N T), .slice A n c] W fun e w' => e = .returned (.int .i64 (chkE z N rs)) ∧ Below W.heap.size W w') := fun W h =>
    check_p z N T hz (he.below h) A n c rs hn (hr.below h) ho
  generalize chkE z N rs = ce at *
  have d0 : (ce != 0) = true := by simpa using h0
  clear he hn hr ho hm hz htm h0
  go_enter Tryz.func4, Tryz.ntmps4
  go_wp2_with (refine wpList_load_row rfl 24 (.tmp 2) rfl w.heap.size rfl _ (cfc z N T) _ _ HX.out Tryz.underlying24 rfl (cfg_size z N T) ?_)
  go_at_call 8
  refine (HCH.out _ HB.out).mono ?_
  rintro e w1 ⟨rfl, hb⟩
  have HB1 := Lib.hid (below_then HB.out hb)
  clear hb
  go_wp2_with fail
  go_ret2
  exact ⟨rfl, HB1.out⟩
set_option maxHeartbeats 2000000 in
theorem new_ok {w : World} (z N : Int) (T : Nat → Int) (hz : -9223372036854775808 ≤ z ∧ z ≤ 9223372036854775807) (htm : ∀ i, -9223372036854775808 ≤ T i ∧ T i ≤ 9223372036854775807) (he : Env w) (A : Option Addr) (n c : Nat) (rs : List R) (hn : rs.length = n) (hr : Rds w w.heap.size (.slice A n c) rs) (ho : ∀ r ∈ rs, r.Ok) (hm : n ≤ 100000) (h0 : chkE z N rs = 0) :
    Calls Tryz.prog 4 #[.agg (cfc z N T), .slice A n c] w fun e w' => ∃ O B M, e = .returned (.tuple #[ptr B, .int .i64 0]) ∧ PAt w' O B M N T (newS rs) ∧ Below w.heap.size w w' ∧ ∀ j, O j → w.heap.size ≤ j := by
  have HX := Lib.hid (Blk.box w (cfc z N T) 24)
  have HB := Lib.hid (below_box w (.cells (cfc z N T) 24))
  have HCH : Hid (∀ W, Below w.heap.size w W → Calls Tryz.prog 8 #[.agg (cfc z N T), .slice A n c] W fun e w' => e = .returned (.int .i64 (chkE z N rs)) ∧ Below W.heap.size W w') := fun W h =>
    check_p z N T hz (he.below h) A n c rs hn (hr.below h) ho
  have HCL : Hid (∀ W, Below w.heap.size w W → Calls Tryz.prog 13 #[.slice A n c] W fun e w' => ∃ v, e = .returned v ∧ Rds w' w'.heap.size v rs ∧ (0 < rs.length → ∀ a n c, v = .slice (some a) n c → W.heap.size ≤ a.block) ∧ Below W.heap.size W w') := fun W h =>
    clone_any A n c rs W hn (hr.below h) hm
  obtain ⟨hN1, hN2, hfit⟩ := chk_ok h0
  have HE := Lib.hid he
  have HOK := Lib.hid ho
  have HTM := Lib.hid htm
  have HN1 := Lib.hid hN1
  have HN2 := Lib.hid hN2
  have HLN := Lib.hid (fit_len hfit)
  rw [h0] at HCH
  clear he hn hr ho hm hz htm h0 hN1 hN2 hfit
  go_enter Tryz.func4, Tryz.ntmps4
  go_wp2_with (refine wpList_load_row rfl 24 (.tmp 2) rfl w.heap.size rfl _ (cfc z N T) _ _ HX.out Tryz.underlying24 rfl (cfg_size z N T) ?_)
  go_at_call 8
  refine (HCH.out _ HB.out).mono ?_
  rintro e W1 ⟨rfl, hb⟩
  have HS1 := Lib.hid (below_then HB.out hb)
  have HX1 := Lib.hid (HX.out.next hb)
  clear hb HX HB
  go_wp2_with fail
  refine wp_region_held_drew (S := fun w' => Blk w' w.heap.size (cfc z N T) 24 ∧ Below w.heap.size w w') (by kernel_rfl) (⟨HX1.out.drew, HS1.out.drew⟩) (fun hH => ?_)
  refine wpAnyH_take (i := 0) (oi := ⟨some 14, _, _, _, _, _⟩) (v := ?v1) rfl (by kernel_rfl) (by kernel_rfl) (by kernel_rfl) (fun _ _ _ h => h) (Or.inl ⟨rfl, ?c1⟩) hH ?r1
  case c1 => (intro w' _; go_simp; (try with_reducible rfl))
  try simp only [Act.put, List.setIfInBounds_toArray, List.set_cons_zero, List.set_cons_succ]
  refine wpAnyH_take (i := 1) (oi := ⟨some 15, _, _, _, _, _⟩) (v := ?v2) rfl (by kernel_rfl) (by kernel_rfl) (by kernel_rfl) (fun _ _ _ h => h) (Or.inl ⟨rfl, ?c2⟩) hH ?r2
  case c2 => (intro w' hS; have c1 := hS.1.cell 1 (.int .i64 N) rfl; go_simp; (try with_reducible rfl))
  try simp only [Act.put, List.setIfInBounds_toArray, List.set_cons_zero, List.set_cons_succ]
  refine wpAnyH_take (i := 2) (oi := ⟨some 16, _, _, _, _, _⟩) (v := ?v3) rfl (by kernel_rfl) (by kernel_rfl) (by kernel_rfl) (fun _ _ _ h => h) (Or.inl ⟨rfl, ?c3⟩) hH ?r3
  case c3 => (intro w' _; go_simp; (try with_reducible rfl))
  try simp only [Act.put, List.setIfInBounds_toArray, List.set_cons_zero, List.set_cons_succ]
  refine wpAnyH_take (i := 3) (oi := ⟨some 17, _, _, _, _, _⟩) (v := ?v4) rfl (by kernel_rfl) (by kernel_rfl) (by kernel_rfl) (fun _ _ _ h => h) (Or.inl ⟨rfl, ?c4⟩) hH ?r4
  case c4 => (intro w' hS; refine take_sixteen (cfg_range hS.1) (.tmp 16) ?_ ?_ <;> rfl)
  try simp only [Act.put, List.setIfInBounds_toArray, List.set_cons_zero, List.set_cons_succ]
  refine wpAnyH_take (i := 5) (oi := ⟨some 19, _, _, _, _, _⟩) (v := ?v5) rfl (by kernel_rfl) (by kernel_rfl) (by kernel_rfl) (fun _ _ _ h => h) (Or.inl ⟨rfl, ?c5⟩) hH ?r5
  case c5 => (intro w' _; go_simp; (try with_reducible rfl))
  try simp only [Act.put, List.setIfInBounds_toArray, List.set_cons_zero, List.set_cons_succ]
  refine wpAnyH_ready (rs := [4, 6]) (by kernel_rfl) (by simp) (AllReadyH.cons rfl (fun K hK => ?_) (AllReadyH.cons rfl (fun K hK => ?_) (AllReadyH.nil)))
  · go_simp
    have HM := Lib.hid (MapAt.new W1.drew)
    refine hK.out _ _ (⟨hH.1.alloc _, hH.2.trans ((below_box W1.drew _).mono hH.2.size)⟩) (fun hH => ?_)
    clear hK K
    try simp only [Act.put, List.setIfInBounds_toArray, List.set_cons_zero, List.set_cons_succ]
    refine wpAnyH_ready (rs := [6]) (by kernel_rfl) (by simp) (AllReadyH.cons rfl (fun K hK => ?_) (AllReadyH.nil))
    go_simp
    go_at_call 13
    refine (HCL.out _ hH.2).mono ?_
    rintro e w6 ⟨v, rfl, hrd, hnew, hbp⟩
    obtain ⟨A', c', rfl, -, -⟩ := hrd.len
    have HRD := Lib.hid hrd
    have HNEW := Lib.hid (fun h a n c e => Nat.le_trans hH.2.size (hnew h a n c e))
    have HML := Lib.hid (HM.out.keep (hbp.block _ HM.out.lt))
    have HMZ := Lib.hid HS1.out.drew.size
    have HNE := Lib.hid (fun h a n c e => Nat.ne_of_gt (Nat.lt_of_lt_of_le HM.out.lt (hnew h a n c e)))
    refine hK.out _ _ (⟨hH.1.next hbp, hH.2.trans (hbp.mono hH.2.size)⟩) (fun hH => ?_)
    clear hK K
    clear hbp hrd hnew HM
    try simp only [Act.put, List.setIfInBounds_toArray, List.set_cons_zero, List.set_cons_succ]
    refine wpAnyH_take (i := 7) (oi := ⟨some 21, _, _, _, _, _⟩) (v := ?v6) rfl (by kernel_rfl) (by kernel_rfl) (by kernel_rfl) (fun _ _ _ h => h) (Or.inl ⟨rfl, ?c6⟩) hH ?r6
    case c6 => (intro w' _; go_simp; (try with_reducible rfl))
    try simp only [Act.put, List.setIfInBounds_toArray, List.set_cons_zero, List.set_cons_succ]
    refine wpAnyH_ready (rs := [8]) (by kernel_rfl) (by simp) (AllReadyH.cons rfl (fun K hK => ?_) (AllReadyH.nil))
    have HB8 := Lib.hid hH.2
    go_simp
    refine hK.out _ _ (⟨hH.1.alloc _, hH.2.trans ((below_box _ _).mono hH.2.size)⟩) (fun hH => ?_)
    clear hK K
    try simp only [Act.put, List.setIfInBounds_toArray, List.set_cons_zero, List.set_cons_succ]
    refine wpAnyH_take (i := 9) (oi := ⟨some 7, _, _, _, _, _⟩) (v := ?v7) rfl (by kernel_rfl) (by kernel_rfl) (by kernel_rfl) (fun _ _ _ h => h) (Or.inl ⟨rfl, ?c7⟩) hH ?r7
    case c7 => (intro w' _; go_simp; (try with_reducible rfl))
    try simp only [Act.put, List.setIfInBounds_toArray, List.set_cons_zero, List.set_cons_succ]
    refine wpAnyH_done (by kernel_rfl) ?_ _
    have HB9 := Lib.hid hH.2
    clear hH
    go_wp2_with fail
    go_ret2
    have HP := new_raw HRD.out HNEW.out HML.out HMZ.out HE.out HB8.out HNE.out HN1.out HN2.out HOK.out HLN.out HTM.out
    try simp only [World.size_alloc] at HP
    exact ⟨_, _, _, rfl, HP, HB9.out, fun j hj => And.left hj⟩
  · go_simp
    go_at_call 13
    refine (HCL.out _ hH.2).mono ?_
    rintro e w6 ⟨v, rfl, hrd, hnew, hbp⟩
    obtain ⟨A', c', rfl, -, -⟩ := hrd.len
    have HRD := Lib.hid hrd
    have HNEW := Lib.hid (fun h a n c e => Nat.le_trans hH.2.size (hnew h a n c e))
    
    refine hK.out _ _ (⟨hH.1.next hbp, hH.2.trans (hbp.mono hH.2.size)⟩) (fun hH => ?_)
    clear hK K
    clear hbp hrd hnew
    try simp only [Act.put, List.setIfInBounds_toArray, List.set_cons_zero, List.set_cons_succ]
    refine wpAnyH_ready (rs := [4]) (by kernel_rfl) (by simp) (AllReadyH.cons rfl (fun K hK => ?_) (AllReadyH.nil))
    go_simp
    have HML := Lib.hid (MapAt.new w6)
    have HNE := Lib.hid (fun h a n c e => Nat.ne_of_lt (HRD.out.lt_of h a n c e))
    replace HRD := Lib.hid (HRD.out.below (below_box w6 (.map #[] 0)))
    have HMZ := Lib.hid hH.2.size
    refine hK.out _ _ (⟨hH.1.alloc _, hH.2.trans ((below_box w6 _).mono hH.2.size)⟩) (fun hH => ?_)
    clear hK K
    try simp only [Act.put, List.setIfInBounds_toArray, List.set_cons_zero, List.set_cons_succ]
    refine wpAnyH_take (i := 7) (oi := ⟨some 21, _, _, _, _, _⟩) (v := ?v8) rfl (by kernel_rfl) (by kernel_rfl) (by kernel_rfl) (fun _ _ _ h => h) (Or.inl ⟨rfl, ?c8⟩) hH ?r8
    case c8 => (intro w' _; go_simp; (try with_reducible rfl))
    try simp only [Act.put, List.setIfInBounds_toArray, List.set_cons_zero, List.set_cons_succ]
    refine wpAnyH_ready (rs := [8]) (by kernel_rfl) (by simp) (AllReadyH.cons rfl (fun K hK => ?_) (AllReadyH.nil))
    have HB8 := Lib.hid hH.2
    go_simp
    refine hK.out _ _ (⟨hH.1.alloc _, hH.2.trans ((below_box _ _).mono hH.2.size)⟩) (fun hH => ?_)
    clear hK K
    try simp only [Act.put, List.setIfInBounds_toArray, List.set_cons_zero, List.set_cons_succ]
    refine wpAnyH_take (i := 9) (oi := ⟨some 7, _, _, _, _, _⟩) (v := ?v9) rfl (by kernel_rfl) (by kernel_rfl) (by kernel_rfl) (fun _ _ _ h => h) (Or.inl ⟨rfl, ?c9⟩) hH ?r9
    case c9 => (intro w' _; go_simp; (try with_reducible rfl))
    try simp only [Act.put, List.setIfInBounds_toArray, List.set_cons_zero, List.set_cons_succ]
    refine wpAnyH_done (by kernel_rfl) ?_ _
    have HB9 := Lib.hid hH.2
    clear hH
    go_wp2_with fail
    go_ret2
    have HP := new_raw HRD.out HNEW.out HML.out HMZ.out HE.out HB8.out HNE.out HN1.out HN2.out HOK.out HLN.out HTM.out
    try simp only [World.size_alloc] at HP
    exact ⟨_, _, _, rfl, HP, HB9.out, fun j hj => And.left hj⟩
end Au
end Go.Proofs.YtgcnhbjoalemlaaGreatDoor
/- Layer 18: the contract of the laws' 'some': a firewall behind anything that is done to it. (Written by wip/tools/mkAulS.py.) -/
set_option linter.unusedVariables false
set_option linter.unusedSimpArgs false
set_option maxRecDepth 100000
namespace Go.Proofs.YtgcnhbjoalemlaaGreatDoor
open Go.ChangeShapes Go.WideShapes Go.ChangeAt Go.RowKit Go.Mtl Go.Lib
namespace Au
open AutM
open RulM (R)
open MatM (K)
/-- The slice v reads as these acts; where it is not empty it lies below block B, and so do their rules. -/
def Das (w : World) (B : Nat) (v : Value) (xs : List Dk) : Prop :=
  ∃ A c, v = .slice A xs.length c ∧ xs.length ≤ c ∧ c ≤ 9223372036854775807 ∧ (0 < xs.length → ∃ b off, A = some ⟨b, off, none⟩ ∧ b < B ∧ ∀ (i : Nat) (x : Dk), xs[i]? = some x → ∀ (j : Nat) (u : Value), (doC x)[j]? = some u → w.cell? ⟨b, off + (i * 15 + j), none⟩ = some u) ∧
    ∀ x ∈ xs, Rds w B x.va x.l
theorem Das.keep {w w' : World} {B : Nat} {v : Value} {xs : List Dk} (h : Das w B v xs) (hk : ∀ p : Addr, p.block < B → w'.cell? p = w.cell? p) : Das w' B v xs := by
  obtain ⟨A, c, e, h1, h2, h3, h4⟩ := h
  refine ⟨A, c, e, h1, h2, fun hn => ?_, fun x hx => (h4 x hx).keep hk⟩
  obtain ⟨b, off, e2, hb, hc⟩ := h3 hn
  exact ⟨b, off, e2, hb, fun i x hx j u hu => (hk ⟨b, _, none⟩ hb).trans (hc i x hx j u hu)⟩
theorem Das.below {w w' : World} {B : Nat} {v : Value} {xs : List Dk} (h : Das w B v xs) (hb : Below B w w') : Das w' B v xs := h.keep fun _ hp => hb.cell hp
theorem Das.len {w : World} {B : Nat} {v : Value} {xs : List Dk} (h : Das w B v xs) : ∃ A c, v = .slice A xs.length c ∧ xs.length ≤ c ∧ c ≤ 9223372036854775807 := by
  obtain ⟨A, c, e, h1, h2, _⟩ := h
  exact ⟨A, c, e, h1, h2⟩
theorem do_size' {a0 a1 a2 a3 a4 a5 a6 a7 a8 a9 b0 b1 b2 b3 b4 : Value} : (Tryz.prog.info? 47).map (·.size) = some [a0, a1, a2, a3, a4, a5, a6, a7, a8, a9, b0, b1, b2, b3, b4].length := (by kernel_rfl : (Tryz.prog.info? 47).map (·.size) = some 15)
/-- One of the acts: where its cells are. -/
theorem Das.at_ {w : World} {B : Nat} {v : Value} {xs : List Dk} (h : Das w B v xs) {len : Nat} (hl : xs.length = len) {i : Nat} {x : Dk} (hx : xs[i]? = some x) :
    ∃ b off c, v = .slice (some ⟨b, off, none⟩) len c ∧ len ≤ c ∧ c ≤ 9223372036854775807 ∧ w.rangeAt b (off + i * 15) (doC x).toList ∧ Rds w B x.va x.l := by
  subst hl
  obtain ⟨A, c, rfl, h1, h2, h3, h4⟩ := h
  obtain ⟨b, off, rfl, hb, hc⟩ := h3 (by have := (List.getElem?_eq_some_iff.1 hx).1; omega)
  refine ⟨b, off, c, rfl, h1, h2, fun j u hu => ?_, h4 x (List.mem_of_getElem? hx)⟩
  rw [Nat.add_assoc]
  exact hc i x hx j u (by simpa using hu)
/-- The config read whole. -/
theorem take_cfg {w : World} {g : Nat} {z N : Int} {T : Nat → Int} {t : TypeId} (H : Blk w g (cfc z N T) t) {ρ : Operand → Value} {o : Oper} (x : Operand) (ho : o.op = .load 24 x) (hx : ρ x = .pointer (some ⟨g, 0, none⟩)) :
    (execOp ρ o).run Tryz.prog w = .ok (.value (.agg (cfc z N T))) w := by
  have h : w.rangeAt g 0 (cfc z N T).toList := by
    intro j v hv
    rw [Nat.zero_add]
    exact H.cell j v (by simpa using hv)
  unfold execOp
  simp only [ho, hx, Instr.loadAt, Instr.sureAddr, Sem.run_bind, Sem.run_pure, Result.andThen_ok, run_loadVar_mid w g 0 24 (cfc z N T).toList _ h Tryz.underlying24 rfl (cfg_size z N T)]
/-- A firewall that a law made; what was there before. -/
structure Am (w : World) (O : Nat → Prop) (B M : Nat) (N : Int) (T : Nat → Int) (s : St) (W : World) : Prop where
  fw : PAt W O B M N T s
  env : Env W
  bel : Below w.heap.size w W
  new : ∀ j, O j → w.heap.size ≤ j
section
variable {w W w' : World} {O O' : Nat → Prop} {B M : Nat} {N : Int} {T : Nat → Int} {s s' : St}
theorem Am.next (H : Am w O B M N T s W) (hb : Below W.heap.size W w') : Am w O B M N T s w' := ⟨H.fw.next hb, H.env.below hb, H.bel.trans (hb.mono H.bel.size), H.new⟩
theorem PAt.far_ (H : PAt W O B M N T s) : ∀ j, O j → Far j := by obtain ⟨⟨li, h⟩, _⟩ := H; exact h.hi
theorem PAt.lt_ (H : PAt W O B M N T s) : ∀ j, O j → j < W.heap.size := by obtain ⟨⟨li, h⟩, _⟩ := H; exact h.lt
theorem Am.turn (H : Am w O B M N T s W) (hp : PAt w' O' B M N T s') (ho : Only O W w') (hO : ∀ j, O' j → O j ∨ W.heap.size ≤ j) : Am w O' B M N T s' w' :=
  ⟨hp, H.env.only ho H.fw.far_, H.bel.trans (ho.below H.new H.bel.size), fun j hj => (hO j hj).elim (H.new j) (fun h => Nat.le_trans H.bel.size h)⟩
theorem Am.same (H : Am w O B M N T s W) (hp : PAt w' O B M N T s') (ho : Only O W w') : Am w O B M N T s' w' := H.turn hp ho fun _ h => .inl h
end
end Au
end Go.Proofs.YtgcnhbjoalemlaaGreatDoor
/- Layer 18: the reference's firewall in its blocks. -/
set_option linter.unusedVariables false
set_option linter.unusedSimpArgs false
set_option maxRecDepth 100000
namespace Go.Proofs.YtgcnhbjoalemlaaGreatDoor
open Go.ChangeShapes Go.WideShapes Go.ChangeAt Go.RowKit Go.Mtl Go.Lib
namespace Au
open AutM
open RulM (R)
open MatM (K)
/-- A flow's seven cells. -/
def f7 (f : Fl) : List Value := [.int .u32 (f.k.a : Int), .int .u32 (f.k.b : Int), .int .u16 (f.k.p : Int), .int .u16 (f.k.q : Int), .int .u8 (f.k.r : Int), .int .u64 (FloM.gI f.c f.n f.s), .bool f.dn]
def fvs (fs : List Fl) : List Value := fs.flatMap f7
theorem fvs_len (fs : List Fl) : (fvs fs).length = fs.length * 7 := by
  unfold fvs
  induction fs with
  | nil => rfl
  | cons f fs ih => simp [List.flatMap_cons, ih, f7]; omega
theorem fvs_append (xs ys : List Fl) : fvs (xs ++ ys) = fvs xs ++ fvs ys := by simp [fvs]
theorem fvs_one (fs : List Fl) : ∀ u ∈ fvs fs, u.oneCell' = true := by
  intro u hu
  obtain ⟨f, _, h⟩ := List.mem_flatMap.1 hu
  simp [f7] at h
  rcases h with rfl | rfl | rfl | rfl | rfl | rfl | rfl <;> rfl
theorem fvs_at : ∀ (fs : List Fl) (i : Nat) (f : Fl), fs[i]? = some f → ∀ j, j < 7 → (fvs fs)[i * 7 + j]? = (f7 f)[j]? := by
  intro fs
  induction fs with
  | nil => intro i f h; simp at h
  | cons g fs ih =>
    intro i f h j hj
    have e : fvs (g :: fs) = f7 g ++ fvs fs := rfl
    rw [e]
    cases i with
    | zero =>
      simp at h; subst h
      rw [Nat.zero_mul, Nat.zero_add, List.getElem?_append_left (by simp [f7]; omega)]
    | succ i =>
      rw [List.getElem?_append_right (by simp [f7]; omega), show (i + 1) * 7 + j - (f7 g).length = i * 7 + j by simp [f7]; omega]
      exact ih i f (by simpa using h) j hj
theorem fvs_take (fs : List Fl) (n : Nat) : fvs (fs.take n) = (fvs fs).take (n * 7) := by
  by_cases h : n ≤ fs.length
  · have e : fvs fs = fvs (fs.take n) ++ fvs (fs.drop n) := by rw [← fvs_append, List.take_append_drop]
    rw [e, List.take_left' (by rw [fvs_len, List.length_take, Nat.min_eq_left h])]
  · rw [List.take_of_length_le (by omega), List.take_of_length_le (by rw [fvs_len]; omega)]
theorem fvs_drop (fs : List Fl) (n : Nat) : fvs (fs.drop n) = (fvs fs).drop (n * 7) := by
  by_cases h : n ≤ fs.length
  · have e : fvs fs = fvs (fs.take n) ++ fvs (fs.drop n) := by rw [← fvs_append, List.take_append_drop]
    rw [e, List.drop_left' (by rw [fvs_len, List.length_take, Nat.min_eq_left h])]
  · rw [List.drop_eq_nil_of_le (by omega), List.drop_eq_nil_of_le (by rw [fvs_len]; omega)]; rfl
/-- Its 27 cells. -/
abbrev rcs (z N : Int) (T : Nat → Int) (x : Int) (vr vf : Value) (t : Nat → Int) : Array Value :=
  #[.int .i64 z, .int .i64 N, .int .i64 (T 0), .int .i64 (T 1), .int .i64 (T 2), .int .i64 (T 3), .int .i64 (T 4), .int .i64 (T 5), .int .i64 (T 6), .int .i64 (T 7), .int .i64 (T 8), .int .i64 (T 9), .int .i64 (T 10), .int .i64 (T 11), .int .i64 (T 12), .int .i64 (T 13), .int .i64 (T 14), .int .i64 (T 15),
    .int .u64 x, vr, vf, .int .u64 (t 0), .int .u64 (t 1), .int .u64 (t 2), .int .u64 (t 3), .int .u64 (t 4), .int .u64 (t 5)]
/-- What lies in the blocks of the reference's firewall: its own block B, its rules of each version, its flows; O are the blocks that are its own. -/
structure Rf (w : World) (O : Nat → Prop) (B : Nat) (z N : Int) (T : Nat → Int) (x : Int) (vr vf : Value) (vs : List Value) (hist : List (List R)) (fs : List Fl) (t : Nat → Int) : Prop where
  blk : Blk w B (rcs z N T x vr vf t) 70
  fr : w.ownsRow 0 90 7 vf fs.length (fvs fs)
  rr : w.ownsRow 0 25 1 vr vs.length vs
  rd : ∀ (i : Nat) (v : Value) (rl : List R), vs[i]? = some v → hist[i]? = some rl → Rds w w.heap.size v rl
  vl : vs.length = hist.length
  fo : ∀ g, vf.ownBlock = some g → O g ∧ g ≠ B ∧ vr.ownBlock ≠ some g ∧ ∀ v ∈ vs, v.ownBlock ≠ some g
  ro : ∀ g, vr.ownBlock = some g → O g ∧ g ≠ B ∧ ∀ v ∈ vs, v.ownBlock ≠ some g
  vo : ∀ v ∈ vs, ∀ g, v.ownBlock = some g → O g ∧ g ≠ B
  ob : O B
  lt : ∀ j, O j → j < w.heap.size
  hi : ∀ j, O j → Far j
section
variable {w w' : World} {O O' : Nat → Prop} {B : Nat} {z N : Int} {T : Nat → Int} {x : Int} {vr vf : Value} {vs : List Value} {hist : List (List R)} {fs : List Fl} {t : Nat → Int}
theorem rds_block {W W' : World} {v : Value} {rl : List R} (h : Rds W W.heap.size v rl) (hs : W.heap.size ≤ W'.heap.size) (hk : ∀ g, v.ownBlock = some g → W'.heap[g]? = W.heap[g]?) : Rds W' W'.heap.size v rl := by
  obtain ⟨A, cap, rfl, h2, h3, h4⟩ := h
  refine ⟨A, cap, rfl, h2, h3, fun hp => ?_⟩
  obtain ⟨b, off, rfl, hb, hc⟩ := h4 hp
  exact ⟨b, off, rfl, Nat.lt_of_lt_of_le hb hs, fun j u hu => (World.cell?_of_block (w := W) (a := ⟨b, off + j, none⟩) (hk b rfl)).trans (hc j u hu)⟩
theorem Rf.keep (H : Rf w O B z N T x vr vf vs hist fs t) (hs : w.heap.size ≤ w'.heap.size) (h : ∀ k, O k → w'.heap[k]? = w.heap[k]?) : Rf w' O B z N T x vr vf vs hist fs t where
  blk := H.blk.keep (h _ H.ob)
  fr := row_keep H.fr fun g e => h g (H.fo g e).1
  rr := row_keep H.rr fun g e => h g (H.ro g e).1
  rd := fun i v rl hv hr => rds_block (H.rd i v rl hv hr) hs fun g e => h g (H.vo v (List.mem_of_getElem? hv) g e).1
  vl := H.vl
  fo := H.fo
  ro := H.ro
  vo := H.vo
  ob := H.ob
  lt := fun j hj => Nat.lt_of_lt_of_le (H.lt j hj) hs
  hi := H.hi
theorem Rf.far (H : Rf w O B z N T x vr vf vs hist fs t) (h : Only O' w w') (hd : ∀ j, O j → ¬ O' j) : Rf w' O B z N T x vr vf vs hist fs t := H.keep h.size fun k hk => h.block k (H.lt k hk) (hd k hk)
theorem Rf.next (H : Rf w O B z N T x vr vf vs hist fs t) (hb : Below w.heap.size w w') : Rf w' O B z N T x vr vf vs hist fs t := H.far (O' := fun _ => False) (Only.of_below hb) (fun _ _ e => e)
theorem Rf.at_ (H : Rf w O B z N T x vr vf vs hist fs t) (i : Nat) (v : Value) (h : (rcs z N T x vr vf t)[i]? = some v) : w.cell? ⟨B, i, none⟩ = some v := H.blk.cell i v h
/-- A cell of its own block that is neither slice stored anew. -/
theorem Rf.set (H : Rf w O B z N T x vr vf vs hist fs t) (i : Nat) (v : Value) {x' : Int} {t' : Nat → Int} (h : (rcs z N T x vr vf t).setIfInBounds i v = rcs z N T x' vr vf t') : Rf (w.setCell ⟨B, i, none⟩ v) O B z N T x' vr vf vs hist fs t' where
  blk := H.blk.set' i v h
  fr := row_keep H.fr fun g e => Below.heap_setCell _ _ _ _ (H.fo g e).2.1
  rr := row_keep H.rr fun g e => Below.heap_setCell _ _ _ _ (H.ro g e).2.1
  rd := fun i v rl hv hr => rds_block (H.rd i v rl hv hr) (by simp [World.setCell]) fun g e => Below.heap_setCell _ _ _ _ (H.vo v (List.mem_of_getElem? hv) g e).2
  vl := H.vl
  fo := H.fo
  ro := H.ro
  vo := H.vo
  ob := H.ob
  lt := fun j hj => by have := H.lt j hj; simpa [World.setCell] using this
  hi := H.hi
theorem Rf.word (H : Rf w O B z N T x vr vf vs hist fs t) (x' : Int) : Rf (w.setCell ⟨B, 18, none⟩ (.int .u64 x')) O B z N T x' vr vf vs hist fs t := H.set 18 _ rfl
/-- Other flows, in a row that came since world w0. -/
theorem Rf.flows {w0 : World} (H : Rf w0 O B z N T x vr vf vs hist fs t) (hb : Below w0.heap.size w0 w) {vf' : Value} {fs' : List Fl} (hr : w.ownsRow w0.heap.size 90 7 vf' fs'.length (fvs fs')) (hfar : ∀ j, w0.heap.size ≤ j → Far j) :
    Rf (w.setCell ⟨B, 20, none⟩ vf') (fun j => O j ∨ (w0.heap.size ≤ j ∧ j < w.heap.size)) B z N T x vr vf' vs hist fs' t ∧ Only O w0 (w.setCell ⟨B, 20, none⟩ vf') := by
  have H1 := H.next hb
  have hBlt := H.lt _ H.ob
  have hnew : ∀ g, vf'.ownBlock = some g → w0.heap.size ≤ g ∧ g < w.heap.size := fun g e => hr.lt g e
  have hsz : (w.setCell ⟨B, 20, none⟩ vf').heap.size = w.heap.size := by simp [World.setCell]
  refine ⟨⟨H1.blk.set' 20 vf' rfl, ?_, row_keep H1.rr fun g e => Below.heap_setCell _ _ _ _ (H1.ro g e).2.1, fun i v rl hv hrl => rds_block (H1.rd i v rl hv hrl) (by rw [hsz]; exact Nat.le_refl _) fun g e => Below.heap_setCell _ _ _ _ (H1.vo v (List.mem_of_getElem? hv) g e).2, H.vl, fun g e => ?_, fun g e => ⟨.inl (H.ro g e).1, (H.ro g e).2⟩, fun v hv g e => ⟨.inl (H.vo v hv g e).1, (H.vo v hv g e).2⟩, .inl H.ob, ?_, ?_⟩, ?_⟩
  · exact row_base (row_keep hr fun g e => Below.heap_setCell _ _ _ _ (fun e2 => by have h1 := (hnew g e).1; have e3 : g = B := e2; omega)) (fun _ _ => Nat.zero_le _)
  · have h1 := hnew g e
    exact ⟨.inr h1, by omega, fun e2 => by have := H.lt _ (H.ro g e2).1; omega, fun v hv e2 => by have := H.lt _ (H.vo v hv g e2).1; omega⟩
  · intro j hj
    rw [hsz]
    exact hj.elim (fun h => Nat.lt_of_lt_of_le (H.lt j h) hb.size) (fun h => h.2)
  · intro j hj
    exact hj.elim (H.hi j) (fun h => hfar j h.1)
  · exact (Only.of_below hb : Only O w0 w).setCell (.inl H.ob) vf'
theorem Rf.len2 (H : Rf w O B z N T x vr vf vs hist fs t) : ∃ A c, vf = .slice A fs.length c ∧ fs.length ≤ c ∧ c ≤ 9223372036854775807 := row_form H.fr
/-- One of its flows: where its cells are. -/
theorem Rf.flow (H : Rf w O B z N T x vr vf vs hist fs t) {i : Nat} {f : Fl} (hf : fs[i]? = some f) : ∃ g c, vf = .slice (some ⟨g, 0, none⟩) fs.length c ∧ fs.length ≤ c ∧ c ≤ 9223372036854775807 ∧ O g ∧ g ≠ B ∧
    w.cell? ⟨g, i * 7, none⟩ = some (.int .u32 (f.k.a : Int)) ∧ w.cell? ⟨g, i * 7 + 1, none⟩ = some (.int .u32 (f.k.b : Int)) ∧ w.cell? ⟨g, i * 7 + 2, none⟩ = some (.int .u16 (f.k.p : Int)) ∧ w.cell? ⟨g, i * 7 + 3, none⟩ = some (.int .u16 (f.k.q : Int)) ∧ w.cell? ⟨g, i * 7 + 4, none⟩ = some (.int .u8 (f.k.r : Int)) ∧
    w.cell? ⟨g, i * 7 + 5, none⟩ = some (.int .u64 (FloM.gI f.c f.n f.s)) ∧ w.cell? ⟨g, i * 7 + 6, none⟩ = some (.bool f.dn) := by
  have hat := fvs_at fs i f hf
  have c0 := hat 0 (by omega)
  obtain ⟨g, c, e, h1, h2, -, -, h5, -⟩ := row_cell H.fr (j := i * 7 + 0) (u := .int .u32 (f.k.a : Int)) c0
  have ho := H.fo g (by rw [e]; rfl)
  have cell : ∀ j u, j < 7 → (f7 f)[j]? = some u → w.cell? ⟨g, i * 7 + j, none⟩ = some u := fun j u hj hu => by
    obtain ⟨g', c', e', -, -, -, -, h, -⟩ := row_cell H.fr (j := i * 7 + j) (u := u) ((hat j hj).trans hu)
    rw [e] at e'
    injection e' with e'
    injection e' with e'
    injection e' with e'
    subst e'
    exact h
  exact ⟨g, c, e, h1, h2, ho.1, ho.2.1, cell 0 _ (by omega) rfl, cell 1 _ (by omega) rfl, cell 2 _ (by omega) rfl, cell 3 _ (by omega) rfl, cell 4 _ (by omega) rfl, cell 5 _ (by omega) rfl, cell 6 _ (by omega) rfl⟩
end
/-- Block B holds the reference's firewall. -/
def QAt (w : World) (O : Nat → Prop) (B : Nat) (z N : Int) (T : Nat → Int) (s : St) : Prop :=
  (∃ vr vf vs hist, Rf w O B z N T (GatM.gI s.c s.g s.v) vr vf vs hist s.fs s.tl ∧ (hist.length : Int) = s.v + 1 ∧ hist[s.v.toNat]? = some s.rl ∧ ∀ rl ∈ hist, (∀ r ∈ rl, r.Ok) ∧ rl.length ≤ 64) ∧ Inv N s ∧ (∀ i, -9223372036854775808 ≤ T i ∧ T i ≤ 9223372036854775807) ∧ 1 ≤ N
section
variable {w w' : World} {O O' : Nat → Prop} {B : Nat} {z N : Int} {T : Nat → Int} {s : St}
theorem QAt.far (H : QAt w O B z N T s) (h : Only O' w w') (hd : ∀ j, O j → ¬ O' j) : QAt w' O B z N T s := by
  obtain ⟨⟨vr, vf, vs, hist, h1, h2⟩, h3⟩ := H
  exact ⟨⟨vr, vf, vs, hist, h1.far h hd, h2⟩, h3⟩
theorem QAt.next (H : QAt w O B z N T s) (hb : Below w.heap.size w w') : QAt w' O B z N T s := H.far (O' := fun _ => False) (Only.of_below hb) (fun _ _ e => e)
theorem QAt.lt_ (H : QAt w O B z N T s) : ∀ j, O j → j < w.heap.size := by obtain ⟨⟨vr, vf, vs, hist, h1, h2⟩, h3⟩ := H; exact h1.lt
end
end Au
end Go.Proofs.YtgcnhbjoalemlaaGreatDoor
/- Layer 18: the reference's Check and New. (Written by wip/tools/mkAulP.py.) -/
set_option linter.unusedVariables false
set_option linter.unusedSimpArgs false
set_option maxRecDepth 100000
namespace Go.Proofs.YtgcnhbjoalemlaaGreatDoor
open Go.ChangeShapes Go.WideShapes Go.ChangeAt Go.RowKit Go.Mtl Go.Lib
namespace Au
open AutM
open RulM (R)
open KeyM (isPow)
/-- One of the first j powers of two. -/
def pwS : Nat → Int → Bool
  | 0, _ => false
  | j + 1, z => pwS j z || (((2 ^ j : Nat) : Int) == z)
theorem pwS_all (z : Int) : pwS 13 z = isPow z := by
  rw [Bool.eq_iff_iff]
  simp [pwS, isPow, beq_iff_eq]
  omega
def PwAt (z : Int) (p i : Value) : Prop := ∃ j : Nat, j ≤ 13 ∧ p = .bool (pwS j z) ∧ i = .int .i64 ((2 ^ j : Nat) : Int)
set_option maxHeartbeats 2000000 in
theorem refCheck_p {w : World} (z N : Int) (T : Nat → Int) (A : Option Addr) (n c : Nat) (rs : List R) (hn : rs.length = n) (hr : Rds w w.heap.size (.slice A n c) rs) (ho : ∀ r ∈ rs, r.Ok) :
    Calls Tryz.prog 14 #[.agg (cfc z N T), .slice A n c] w fun e w' => e = .returned (.int .i64 (chkE z N rs)) ∧ Below w.heap.size w w' := by
  have HB := Lib.hid (below_box w (.cells (cfc z N T) 24))
  have HC : Hid (∀ W, Below w.heap.size w W → Calls Tryz.prog 36 #[.slice A n c] W fun e w' => e = .returned (.int .i64 (fitE rs)) ∧ Below W.heap.size W w') := fun W h =>
    refFits_any A n c rs W hn (hr.below h) ho
  have HX := Lib.hid (Blk.box w (cfc z N T) 24)
  have c0 := HX.out.cell 0 _ rfl
  have c1 := HX.out.cell 1 _ rfl
  obtain ⟨V, hV⟩ : ∃ V, V = chkE z N rs := ⟨_, rfl⟩
  rw [← hV]
  have HV : Hid (V = if isPow z && (decide (1 ≤ N) && decide (N ≤ 4095)) then fitE rs else 1) := hV
  generalize fitE rs = fe at HC HV
  clear hn hr ho hV
  go_enter Tryz.func14, Tryz.ntmps14
  go_wp2_with fail
  go_loop [5, 6] (PwAt z) (fun _ i => 8192 - (RowKit.intOf i).toNat)
  case atStart => exact ⟨0, by omega, rfl, rfl⟩
  case round =>
    obtain ⟨j, hj, rfl, rfl⟩ := hrel
    by_cases hlt : j ≤ 12
    · have hp : 1 ≤ 2 ^ j ∧ 2 ^ j ≤ 4096 := Ky.pow_le hlt
      have HD := Lib.hid (show 2 ^ (j + 1) = 2 ^ j * 2 from Nat.pow_succ 2 j)
      have HS := Lib.hid (show pwS (j + 1) z = (pwS j z || (((2 ^ j : Nat) : Int) == z)) from rfl)
      generalize hX : 2 ^ j = X at hp HD HS ⊢
      generalize pwS j z = pb at HS ⊢
      clear hX
      cases pb with
      | true =>
        go_wp2_with fail
        go_round
        case rel => exact ⟨j + 1, by omega, by rw [HS.out]; rfl, by rw [HD.out]; go_num⟩
        case measure => simp [RowKit.intOf]; omega
      | false =>
        obtain ⟨b, hb⟩ : ∃ b, ((X : Int) == z) = b := ⟨_, rfl⟩
        have HS2 : Hid (pwS (j + 1) z = b) := by show _ = _; rw [HS.out, hb]; rfl
        clear HS
        go_wp2_with fail
        go_round
        case rel => exact ⟨j + 1, by omega, by rw [HS2.out], by rw [HD.out]; go_num⟩
        case measure => simp [RowKit.intOf]; omega
    · have hp : 2 ^ j = 8192 := Ky.pow_big hj hlt
      have hq : pwS j z = isPow z := by
        obtain rfl : j = 13 := by omega
        exact pwS_all z
      rw [hp, hq]
      clear hp hq
      cases hi : isPow z with
      | false =>
        have hv : V = 1 := by rw [HV.out, hi]; rfl
        clear HV hi
        go_wp2_with fail
        go_ret
        exact ⟨by first | rfl | (rw [hv]; rfl), HB.out⟩
      | true =>
        by_cases n1 : 1 ≤ N
        · have d1 : decide (N < 1) = false := decide_eq_false (by omega)
          by_cases n2 : N ≤ 4095
          · have d2 : decide (4095 < N) = false := decide_eq_false (by omega)
            have hv : V = fe := by rw [HV.out, hi, decide_eq_true n1, decide_eq_true n2]; rfl
            clear HV hi n1 n2
            subst hv
            go_wp2_with fail
            go_at_call 36
            refine (HC.out _ HB.out).mono ?_
            rintro e w1 ⟨rfl, hb⟩
            have HB2 := Lib.hid (below_then HB.out hb)
            clear hb c0 c1
            go_wp2_with fail
            go_ret
            exact ⟨rfl, HB2.out⟩
          · have d2 : decide (4095 < N) = true := decide_eq_true (by omega)
            have hv : V = 1 := by rw [HV.out, decide_eq_false n2]; simp
            clear HV hi n1 n2
            go_wp2_with fail
            go_ret
            exact ⟨by first | rfl | (rw [hv]; rfl), HB.out⟩
        · have d1 : decide (N < 1) = true := decide_eq_true (by omega)
          have hv : V = 1 := by rw [HV.out, decide_eq_false n1]; simp
          clear HV hi n1
          go_wp2_with fail
          go_ret
          exact ⟨by first | rfl | (rw [hv]; rfl), HB.out⟩
set_option maxHeartbeats 2000000 in
theorem refNew_bad {w : World} (z N : Int) (T : Nat → Int) (A : Option Addr) (n c : Nat) (rs : List R) (hn : rs.length = n) (hr : Rds w w.heap.size (.slice A n c) rs) (ho : ∀ r ∈ rs, r.Ok) (h0 : chkE z N rs ≠ 0) :
    Calls Tryz.prog 6 #[.agg (cfc z N T), .slice A n c] w fun e w' => e = .returned (.tuple #[.pointer none, .int .i64 (chkE z N rs)]) ∧ Below w.heap.size w w' := by
  have HX := Lib.hid (Blk.box w (cfc z N T) 24)
  have HB := Lib.hid (below_box w (.cells (cfc z N T) 24))
  have HCH : Hid (∀ W, Below w.heap.size w W → Calls Tryz.prog 14 #[.agg (cfc z N T), .slice A n c] W fun e w' => e = .returned (.int .i64 (chkE z N rs)) ∧ Below W.heap.size W w') := fun W h =>
    refCheck_p z N T A n c rs hn (hr.below h) ho
  generalize chkE z N rs = ce at *
  have d0 : (ce != 0) = true := by simpa using h0
  clear hn hr ho h0
  go_enter Tryz.func6, Tryz.ntmps6
  go_wp2_with (refine wpList_load_row rfl 24 (.tmp 2) rfl w.heap.size rfl _ (cfc z N T) _ _ HX.out Tryz.underlying24 rfl (cfg_size z N T) ?_)
  go_at_call 14
  refine (HCH.out _ HB.out).mono ?_
  rintro e w1 ⟨rfl, hb⟩
  have HB1 := Lib.hid (below_then HB.out hb)
  clear hb
  go_wp2_with fail
  go_ret2
  exact ⟨rfl, HB1.out⟩
theorem lit10 (w : World) : ((w.alloc (.cells #[] 62)).drew).ownsRow w.heap.size 62 10 (.slice (some ⟨w.heap.size, 0, none⟩) 0 0) ([] : List R).length (cellsRs []) := own_none w 62 w.heap.size (Nat.le_refl _)
/-- What the reference's New has made. -/
theorem newQ {w0 w : World} (hb : Below w0.heap.size w0 w) {z N : Int} {T : Nat → Int} {A : Option Addr} {c : Nat} {rs : List R} (hr : w.ownsRow w0.heap.size 62 10 (.slice A rs.length c) rs.length (cellsRs rs)) (he : Env w0) (h1 : 1 ≤ N) (h2 : N ≤ 4095) (ho : ∀ r ∈ rs, r.Ok) (hl : rs.length ≤ 64) (htm : ∀ i, -9223372036854775808 ≤ T i ∧ T i ≤ 9223372036854775807) :
    QAt ((w.alloc (.cells #[.slice A rs.length c] 25)).alloc (.cells (rcs z N T 0 (.slice (some ⟨w.heap.size, 0, none⟩) 1 1) (.slice none 0 0) (fun _ => 0)) 70)) (fun j => w0.heap.size ≤ j ∧ j < w.heap.size + 2) (w.heap.size + 1) z N T (newS rs) := by
  have hsz := hb.size
  have e : GatM.gI (newS rs).c (newS rs).g (newS rs).v = 0 := by unfold GatM.gI newS; rfl
  have hrow : (w.alloc (.cells #[.slice A rs.length c] 25)).ownsRow 0 25 1 (.slice (some ⟨w.heap.size, 0, none⟩) 1 1) [Value.slice A rs.length c].length [.slice A rs.length c] :=
    ⟨rfl, .inr ⟨w.heap.size, 1, #[.slice A rs.length c], rfl, Nat.zero_le _, heap_alloc_new w _, Nat.le_refl _, by unfold maxLen; simp, rfl, rfl⟩⟩
  refine ⟨⟨.slice (some ⟨w.heap.size, 0, none⟩) 1 1, .slice none 0 0, [.slice A rs.length c], [rs], ?_, rfl, rfl, fun rl h => ?_⟩, newS_inv h1 h2 ho hl, htm, h1⟩
  · rw [e]
    exact {
      blk := Blk.box1 w _ _ _
      fr := ⟨rfl, .inl ⟨rfl, rfl⟩⟩
      rr := hrow.alloc _
      rd := fun i v rl hv hrl => by
        cases i with
        | zero =>
          obtain rfl : Value.slice A rs.length c = v := Option.some.inj hv
          obtain rfl : rs = rl := Option.some.inj hrl
          exact Rds.of_own ((hr.alloc _).alloc _)
        | succ i => simp at hv
      vl := rfl
      fo := fun g e => by cases e
      ro := fun g e => by
        obtain rfl : w.heap.size = g := Option.some.inj e
        exact ⟨⟨hsz, by omega⟩, by omega, fun v hv e2 => by
          obtain rfl := List.mem_singleton.1 hv
          have := (hr.lt _ e2).2
          omega⟩
      vo := fun v hv g e => by
        obtain rfl := List.mem_singleton.1 hv
        have := hr.lt g e
        exact ⟨⟨this.1, by omega⟩, by omega⟩
      ob := ⟨by omega, by omega⟩
      lt := fun j hj => by simp only [World.size_alloc]; omega
      hi := fun j hj => he.new hj.1 }
  · obtain rfl := List.mem_singleton.1 h
    exact ⟨ho, hl⟩
set_option maxHeartbeats 2000000 in
theorem refNew_ok {w : World} (z N : Int) (T : Nat → Int) (htm : ∀ i, -9223372036854775808 ≤ T i ∧ T i ≤ 9223372036854775807) (he : Env w) (A : Option Addr) (n c : Nat) (rs : List R) (hn : rs.length = n) (hr : Rds w w.heap.size (.slice A n c) rs) (ho : ∀ r ∈ rs, r.Ok) (h0 : chkE z N rs = 0) :
    Calls Tryz.prog 6 #[.agg (cfc z N T), .slice A n c] w fun e w' => ∃ O B, e = .returned (.tuple #[ptr B, .int .i64 0]) ∧ QAt w' O B z N T (newS rs) ∧ Below w.heap.size w w' ∧ ∀ j, O j → w.heap.size ≤ j := by
  have HX := Lib.hid (Blk.box w (cfc z N T) 24)
  have HB := Lib.hid (below_box w (.cells (cfc z N T) 24))
  have HCH : Hid (∀ W, Below w.heap.size w W → Calls Tryz.prog 14 #[.agg (cfc z N T), .slice A n c] W fun e w' => e = .returned (.int .i64 (chkE z N rs)) ∧ Below W.heap.size W w') := fun W h =>
    refCheck_p z N T A n c rs hn (hr.below h) ho
  obtain ⟨hN1, hN2, hfit⟩ := chk_ok h0
  have HE := Lib.hid he
  have HR := Lib.hid hr
  have HN := Lib.hid hn
  have HOK := Lib.hid ho
  have HTM := Lib.hid htm
  have HN1 := Lib.hid hN1
  have HN2 := Lib.hid hN2
  have HLN := Lib.hid (fit_len hfit)
  rw [h0] at HCH
  clear he hn hr ho htm h0 hN1 hN2 hfit
  go_enter Tryz.func6, Tryz.ntmps6
  go_wp2_with (refine wpList_load_row rfl 24 (.tmp 2) rfl w.heap.size rfl _ (cfc z N T) _ _ HX.out Tryz.underlying24 rfl (cfg_size z N T) ?_)
  go_at_call 14
  refine (HCH.out _ HB.out).mono ?_
  rintro e W1 ⟨rfl, hb⟩
  have HS1 := Lib.hid (below_then HB.out hb)
  have HX1 := Lib.hid (HX.out.next hb)
  clear hb HX HB
  go_wp2_with fail
  refine wp_region_held_drew (S := fun w' => Hid (Below W1.heap.size W1 w')) (by kernel_rfl) (Lib.hid (Below.refl _ _).drew) (fun hH => ?_)
  refine wpAnyH_take (i := 0) (oi := ⟨some 13, _, _, _, _, _⟩) (v := ?v1) rfl (by kernel_rfl) (by kernel_rfl) (by kernel_rfl) (fun _ _ _ h => h) (Or.inl ⟨rfl, ?c1⟩) hH ?r1
  case c1 => (intro w' hS; refine take_cfg (HX1.out.next hS.out) (.tmp 2) ?_ ?_ <;> rfl)
  try simp only [Act.put, List.setIfInBounds_toArray, List.set_cons_zero, List.set_cons_succ]
  refine wpAnyH_take (i := 2) (oi := ⟨some 15, _, _, _, _, _⟩) (v := ?v2) rfl (by kernel_rfl) (by kernel_rfl) (by kernel_rfl) (fun _ _ _ h => h) (Or.inl ⟨rfl, ?c2⟩) hH ?r2
  case c2 => (intro w' _; go_simp; (try with_reducible rfl))
  try simp only [Act.put, List.setIfInBounds_toArray, List.set_cons_zero, List.set_cons_succ]
  refine wpAnyH_ready (rs := [1]) (by kernel_rfl) (by simp) (AllReadyH.cons rfl (fun K hK => ?_) (AllReadyH.nil))
  go_simp
  refine hK.out _ _ (Lib.hid ((Below.refl W1.heap.size W1).alloc (Nat.le_refl _) _).drew) (fun hH => ?_)
  clear hK K
  have HO := Lib.hid (lit10 W1)
  generalize (W1.alloc (.cells #[] 62)).drew = w10 at hH HO ⊢
  try simp only [Act.put, List.setIfInBounds_toArray, List.set_cons_zero, List.set_cons_succ]
  refine wpAnyH_ready (rs := [3]) (by kernel_rfl) (by simp) (AllReadyH.cons rfl (fun K hK => ?_) (AllReadyH.nil))
  refine Ma.step_append_rds W1 rfl (.tmp 14) (.tmp 15) rfl _ [] rfl HO.out hH.out _ A n c rs rfl HN.out (HR.out.below (HS1.out.trans (hH.out.mono HS1.out.size))) (by have := HLN.out; have := HN.out; simp only [List.length_nil]; omega) ?_
  intro v11 w11 ho11 hb11
  change K (Act.put _ (some 16) _) _
  refine hK.out _ _ (Lib.hid hb11.out) (fun hH => ?_)
  clear hK K
  replace ho11 : Hid (w11.ownsRow W1.heap.size 62 10 v11 rs.length (cellsRs rs)) := ho11
  obtain ⟨A2, c2, rfl, -, -⟩ := row_form ho11.out
  have HB11 := Lib.hid hb11.out
  clear HO hb11
  try simp only [Act.put, List.setIfInBounds_toArray, List.set_cons_zero, List.set_cons_succ]
  refine wpAnyH_ready (rs := [4]) (by kernel_rfl) (by simp) (AllReadyH.cons rfl (fun K hK => ?_) (AllReadyH.nil))
  go_simp
  refine hK.out _ _ (Lib.hid (hH.out.trans ((below_box _ _).mono hH.out.size))) (fun hH => ?_)
  clear hK K
  have HQ := Lib.hid (newQ (z := z) (T := T) HB11.out ho11.out (HE.out.below HS1.out) HN1.out HN2.out HOK.out HLN.out HTM.out)
  try simp only [Act.put, List.setIfInBounds_toArray, List.set_cons_zero, List.set_cons_succ]
  refine wpAnyH_take (i := 5) (oi := ⟨some 18, _, _, _, _, _⟩) (v := ?v3) rfl (by kernel_rfl) (by kernel_rfl) (by kernel_rfl) (fun _ _ _ h => h) (Or.inl ⟨rfl, ?c3⟩) hH ?r3
  case c3 => (intro w' _; go_simp; (try with_reducible rfl))
  try simp only [Act.put, List.setIfInBounds_toArray, List.set_cons_zero, List.set_cons_succ]
  refine wpAnyH_ready (rs := [6]) (by kernel_rfl) (by simp) (AllReadyH.cons rfl (fun K hK => ?_) (AllReadyH.nil))
  go_simp
  refine hK.out _ _ (Lib.hid (hH.out.trans ((below_box _ _).mono hH.out.size))) (fun hH => ?_)
  clear hK K
  try simp only [Act.put, List.setIfInBounds_toArray, List.set_cons_zero, List.set_cons_succ]
  refine wpAnyH_take (i := 7) (oi := ⟨some 4, _, _, _, _, _⟩) (v := ?v4) rfl (by kernel_rfl) (by kernel_rfl) (by kernel_rfl) (fun _ _ _ h => h) (Or.inl ⟨rfl, ?c4⟩) hH ?r4
  case c4 => (intro w' _; go_simp; (try with_reducible rfl))
  try simp only [Act.put, List.setIfInBounds_toArray, List.set_cons_zero, List.set_cons_succ]
  refine wpAnyH_take (i := 8) (oi := ⟨some 5, _, _, _, _, _⟩) (v := ?v5) rfl (by kernel_rfl) (by kernel_rfl) (by kernel_rfl) (fun _ _ _ h => h) (Or.inl ⟨rfl, ?c5⟩) hH ?r5
  case c5 => (intro w' _; go_simp; (try with_reducible rfl))
  try simp only [Act.put, List.setIfInBounds_toArray, List.set_cons_zero, List.set_cons_succ]
  refine wpAnyH_done (by kernel_rfl) ?_ _
  have HBW := Lib.hid (HS1.out.trans (hH.out.mono HS1.out.size))
  have HSZ := Lib.hid HS1.out.size
  clear hH
  go_wp2_with fail
  go_ret2
  exact ⟨_, _, rfl, HQ.out, HBW.out, fun j hj => Nat.le_trans HSZ.out hj.1⟩
end Au
end Go.Proofs.YtgcnhbjoalemlaaGreatDoor
/- Layer 18: what awake does, in the plain machine: New, five Acts, a Tick, a Count. -/
set_option linter.unusedVariables false
set_option linter.unusedSimpArgs false
set_option maxRecDepth 100000
namespace Go.Proofs.YtgcnhbjoalemlaaGreatDoor
open Go.ChangeShapes Go.WideShapes Go.ChangeAt Go.RowKit Go.Mtl Go.Lib
namespace Au
open AutM
open RulM (R)
open MatM (K fst accB idxI)

def r1 : R := ⟨true, 0, 0, 0, 0, 0, 0, 65535, 0, 65535⟩
def p1 : K := ⟨6, 1, 2, 3, 4, 2, 0⟩
def q1 : K := ⟨6, 2, 1, 4, 3, 18, 0⟩
def u1 : K := ⟨17, 0, 0, 0, 0, 0, 0⟩
def T1 (i : Nat) : Int := if i = 1 ∨ i = 2 then 5 else 0
theorem r1_ok : ∀ r ∈ [r1], r.Ok := by
  intro r hr
  rw [List.mem_singleton.1 hr]
  exact ⟨by decide, by decide, by decide, by decide, by decide, by decide, by decide, by decide, by decide⟩
theorem p1_ok : p1.Ok := ⟨by decide, by decide, by decide, by decide, by decide, by decide, by decide⟩
theorem q1_ok : q1.Ok := ⟨by decide, by decide, by decide, by decide, by decide, by decide, by decide⟩
theorem u1_ok : u1.Ok := ⟨by decide, by decide, by decide, by decide, by decide, by decide, by decide⟩
theorem T1_in (i : Nat) : -9223372036854775808 ≤ T1 i ∧ T1 i ≤ 9223372036854775807 := by unfold T1; split <;> omega
theorem chk_1 : chkE 1 1 [r1] = 0 := by decide +kernel
def s0 : St := newS [r1]
def s1 : St := actS 1 T1 s0 q1
def s2 : St := actS 1 T1 s1 p1
def s3 : St := actS 1 T1 s2 q1
def s4 : St := actS 1 T1 s3 u1
def s5 : St := { s4 with c := Ga.later s4.c 5 }
def s6 : St := actS 1 T1 s5 q1
def s7 : St := countS s6 3
theorem v1 : actV 1 s0 q1 = 4 := by decide +kernel
theorem v2 : actV 1 s1 p1 = 1 := by decide +kernel
theorem v3 : actV 1 s2 q1 = 1 := by decide +kernel
theorem v4 : actV 1 s3 u1 = 5 := by decide +kernel
theorem v5 : actV 1 s5 q1 = 4 := by decide +kernel
theorem v6 : statV s7 3 = 1 := by decide +kernel
theorem v7 : s7.fs.length = 0 := by decide +kernel
theorem v8 : s7.v = 0 ∧ s7.g = 0 ∧ s7.c = 5 := by decide +kernel
end Au
end Go.Proofs.YtgcnhbjoalemlaaGreatDoor
/- Layer 18: the reference's Swap. (Written by wip/tools/mkAulQ.py.) -/
set_option linter.unusedVariables false
set_option linter.unusedSimpArgs false
set_option maxRecDepth 100000
namespace Go.Proofs.YtgcnhbjoalemlaaGreatDoor
open Go.ChangeShapes Go.WideShapes Go.ChangeAt Go.RowKit Go.Mtl Go.Lib
namespace Au
open AutM
open RulM (R)
section
variable {w w' : World} {O O' : Nat → Prop} {B : Nat} {z N : Int} {T : Nat → Int} {x : Int} {vr vf : Value} {vs : List Value} {hist : List (List R)} {fs : List Fl} {t : Nat → Int}
/-- One version more, in a row that came since world w0. -/
theorem Rf.rules {w0 w1 w2 : World} (H : Rf w0 O B z N T x vr vf vs hist fs t) (hb : Below w0.heap.size w0 w1) {v : Value} {rl : List R} (hr : w1.ownsRow w0.heap.size 62 10 v rl.length (cellsRs rl)) (hg : w1.grownBy w2 vr.ownBlock)
    {vr' : Value} (hrow : w2.ownsRow 0 25 1 vr' (vs.length + 1) (vs ++ [v])) (hor : vr'.ownBlock = vr.ownBlock ∨ ∃ g, vr'.ownBlock = some g ∧ w1.heap.size ≤ g ∧ g < w2.heap.size) (hfar : ∀ j, w0.heap.size ≤ j → Far j) :
    Rf (w2.setCell ⟨B, 19, none⟩ vr') (fun j => O j ∨ (w0.heap.size ≤ j ∧ j < w2.heap.size)) B z N T x vr' vf (vs ++ [v]) (hist ++ [rl]) fs t ∧ Only O w0 (w2.setCell ⟨B, 19, none⟩ vr') := by
  have hsz : (w2.setCell ⟨B, 19, none⟩ vr').heap.size = w2.heap.size := by simp [World.setCell]
  have h01 := hb.size
  have h12 := hg.size
  have hBlt := H.lt _ H.ob
  have hvr : ∀ g, vr.ownBlock = some g → g < w0.heap.size := fun g e => H.lt _ (H.ro g e).1
  have hv : ∀ g, v.ownBlock = some g → w0.heap.size ≤ g ∧ g < w1.heap.size := fun g e => hr.lt g e
  have kp : ∀ g, g < w0.heap.size → vr.ownBlock ≠ some g → w2.heap[g]? = w0.heap[g]? := fun g hg2 hn => (hg.block g (by omega) (fun e => hn e.symm)).trans (hb.block g hg2)
  have kB : w2.heap[B]? = w0.heap[B]? := kp B hBlt (fun e => (H.ro B e).2.1 rfl)
  have hcel : ∀ g, g ≠ B → (w2.setCell ⟨B, 19, none⟩ vr').heap[g]? = w2.heap[g]? := fun g hn => Below.heap_setCell _ _ _ _ hn
  have hkeep : ∀ g, g < w0.heap.size → g ≠ B → vr.ownBlock ≠ some g → (w2.setCell ⟨B, 19, none⟩ vr').heap[g]? = w0.heap[g]? := fun g h1 h2 h3 => (hcel g h2).trans (kp g h1 h3)
  have hvr' : ∀ g, vr'.ownBlock = some g → g ≠ B ∧ (O g ∨ (w0.heap.size ≤ g ∧ g < w2.heap.size)) ∧ (∀ u ∈ vs, u.ownBlock ≠ some g) ∧ v.ownBlock ≠ some g ∧ vf.ownBlock ≠ some g := fun g e => by
    rcases hor with h | ⟨g', h, h1, h2⟩
    · rw [h] at e
      refine ⟨(H.ro g e).2.1, .inl (H.ro g e).1, (H.ro g e).2.2, fun e2 => ?_, fun e2 => (H.fo g e2).2.2.1 e⟩
      have := (hv g e2).1; have := hvr g e; omega
    · rw [h] at e
      obtain rfl : g' = g := Option.some.inj e
      refine ⟨by omega, .inr ⟨by omega, h2⟩, fun u hu e2 => ?_, fun e2 => ?_, fun e2 => ?_⟩
      · have := H.lt _ (H.vo u hu _ e2).1; omega
      · have := (hv _ e2).2; omega
      · have := H.lt _ (H.fo _ e2).1; omega
  refine ⟨?_, ?_⟩
  · exact {
      blk := (H.blk.keep kB).set' 19 vr' rfl
      fr := row_keep H.fr fun g e => hkeep g (H.lt _ (H.fo g e).1) (H.fo g e).2.1 (H.fo g e).2.2.1
      rr := by
        rw [List.length_append]
        exact row_keep hrow fun g e => hcel g (hvr' g e).1
      rd := fun i u ru hu hru => by
        rw [hsz]
        have h1 := World.ownsRow.lt hr
        by_cases hi : i < vs.length
        · rw [List.getElem?_append_left hi] at hu
          rw [List.getElem?_append_left (by rw [← H.vl]; exact hi)] at hru
          have := rds_block (W' := w2.setCell ⟨B, 19, none⟩ vr') (H.rd i u ru hu hru) (by rw [hsz]; omega) fun g e => hkeep g (H.lt _ (H.vo u (List.mem_of_getElem? hu) g e).1) (H.vo u (List.mem_of_getElem? hu) g e).2 (fun e2 => (H.ro g e2).2.2 u (List.mem_of_getElem? hu) e)
          rwa [hsz] at this
        · rw [List.getElem?_append_right (by omega)] at hu
          rw [List.getElem?_append_right (by rw [← H.vl]; omega)] at hru
          have hi0 : i - vs.length = 0 := by
            rcases Nat.eq_zero_or_pos (i - vs.length) with h | h
            · exact h
            · rw [List.getElem?_eq_none (by simp; omega)] at hu; cases hu
          rw [hi0] at hu
          rw [← H.vl, hi0] at hru
          obtain rfl : v = u := Option.some.inj hu
          obtain rfl : rl = ru := Option.some.inj hru
          have h2 : (w2.setCell ⟨B, 19, none⟩ vr').ownsRow w0.heap.size 62 10 v rl.length (cellsRs rl) := row_keep hr fun g e => (hcel g (by have := (hv g e).1; omega)).trans (hg.block g (hv g e).2 (fun e2 => by have := hvr g e2.symm; have := (hv g e).1; omega))
          have := Rds.of_own h2
          rwa [hsz] at this
      vl := by rw [List.length_append, List.length_append, H.vl]; rfl
      fo := fun g e => ⟨.inl (H.fo g e).1, (H.fo g e).2.1, fun e2 => (hvr' g e2).2.2.2.2 e, fun u hu e2 => by
        rcases List.mem_append.1 hu with hu | hu
        · exact (H.fo g e).2.2.2 u hu e2
        · obtain rfl := List.mem_singleton.1 hu
          have := (hv g e2).1; have := H.lt _ (H.fo g e).1; omega⟩
      ro := fun g e => ⟨(hvr' g e).2.1, (hvr' g e).1, fun u hu e2 => by
        rcases List.mem_append.1 hu with hu | hu
        · exact (hvr' g e).2.2.1 u hu e2
        · obtain rfl := List.mem_singleton.1 hu
          exact (hvr' g e).2.2.2.1 e2⟩
      vo := fun u hu g e => by
        rcases List.mem_append.1 hu with hu | hu
        · exact ⟨.inl (H.vo u hu g e).1, (H.vo u hu g e).2⟩
        · obtain rfl := List.mem_singleton.1 hu
          have := hv g e
          exact ⟨.inr ⟨this.1, by omega⟩, by omega⟩
      ob := .inl H.ob
      lt := fun j hj => by
        rw [hsz]
        rcases hj with h | h
        · have := H.lt j h; omega
        · exact h.2
      hi := fun j hj => hj.elim (H.hi j) fun h => hfar j h.1 }
  · exact (((Only.of_below hb : Only O w0 w1).trans (Only.grown (O := O) hg (fun k e => (H.ro k e).1)) fun j h => .inl h)).setCell (.inl H.ob) vr'
end
/-- 'append(list, x)' at a step of a region that draws its order: a row that may be older; the one element has just been laid. -/
theorem step_push {P : Program} {w : World} {o : Oper} {a : Act} {K : Act → World → Prop} {Q : Exit → Act → World → Prop} {ops : Array Oper} {E : Prop} (n1 : Nat) (hgd : o.guard = none) (s x : Operand) (t e : TypeId)
    (ho : o.op = .call { callee := .builtin .append, args := #[s, x], argTypes := #[t, t] })
    (ht : P.underlying t = some (.slice e)) (z : Value) (size bytes : Nat) (hinfo : (P.info? e).map (fun i => (i.zero, i.size, i.bytes)) = some (some z, size, bytes)) (hzs : z.cells.size = size) (hsz : 0 < size) (hby : bytes ≤ 64)
    (v : Value) (n : Nat) (xs : List Value) (hs : a.eval s = v) (hown : w.ownsRow 0 e size v n xs)
    (us : List Value) (hus : us.length = size) (h1 : ∀ u ∈ us, u.oneCell' = true) (g : Nat) (hcell : ∀ j u, us[j]? = some u → w.cell? (Addr.add ⟨g, 0, none⟩ j) = some u) (hx : a.eval x = .slice (some ⟨g, 0, none⟩) 1 1) (hn1 : n + 1 = n1) (hn : n ≤ 1000000000000)
    (h : ∀ A' c' w', Hid (w'.ownsRow 0 e size (.slice A' n1 c') n1 (xs ++ us)) → Hid (w.grownBy w' v.ownBlock) → Hid ((Value.slice A' n1 c').ownBlock = v.ownBlock ∨ ∃ g, (Value.slice A' n1 c').ownBlock = some g ∧ w.heap.size ≤ g ∧ g < w'.heap.size) → K (a.put o.dst (.slice A' n1 c')) w') :
    if Region.wanted o (yielded ops a.tmps) = true then Oper.wp P o a w K Q else E := by
  subst hn1
  have hw : Region.wanted o (yielded ops a.tmps) = true := by simp [Region.wanted, hgd]
  rw [if_pos hw]
  obtain ⟨i, hi, hz0, hz1, hz2⟩ := info_parts hinfo
  obtain ⟨v', w', h0, g1, g2, _, g4⟩ := run_append_own_at (P := P) w 0 t o.type e i z size bytes ht hi hz0 hz1 hz2 hzs hsz v n xs hown ⟨g, 0, none⟩ 1 1 us (by rw [hus, Nat.one_mul]) hcell h1 (by unfold maxLen; omega)
    (by have : (n + 1) * bytes ≤ 1000000000001 * 64 := Nat.mul_le_mul (by omega) hby; omega) (Nat.zero_le _)
  obtain ⟨A', c', rfl, -, -⟩ := row_form g1
  unfold Oper.wp execOp
  simp only [ho, resolve, invoke, builtin, Sem.run_bind, Sem.run_pure, Result.andThen_ok, List.map_toArray, List.map_cons, List.map_nil, hs, hx, h0]
  refine h _ _ _ g1 g2 (show _ ∨ _ from ?_)
  rcases g4 with g4 | g4
  · exact .inl g4
  · exact .inr ⟨_, g4, Nat.le_refl _, (g1.lt _ g4).2⟩
theorem rules_info : (Tryz.prog.info? 25).map (fun i => (i.zero, i.size, i.bytes)) = some (some (.slice none 0 0), 1, 24) := by kernel_rfl
set_option maxHeartbeats 4000000 in
theorem refSwap_q {w : World} {O : Nat → Prop} {B : Nat} {z N : Int} {T : Nat → Int} {s : St} (H : QAt w O B z N T s) (he : Env w) (A : Option Addr) (n c : Nat) (rs : List R) (hn : rs.length = n) (hr : Rds w w.heap.size (.slice A n c) rs) (ho : ∀ r ∈ rs, r.Ok) (hA : 0 < rs.length → ∀ a n' c', Value.slice A n c = .slice (some a) n' c' → ¬ O a.block) :
    Calls Tryz.prog 25 #[ptr B, .slice A n c] w fun e w' => ∃ O' : Nat → Prop, e = .returned (.tuple #[.int .i64 (swapV s rs).1, .int .i64 (swapV s rs).2]) ∧ QAt w' O' B z N T (swapS s rs) ∧ Only O w w' ∧ ∀ j, O' j → O j ∨ w.heap.size ≤ j := by
  have hd := H.2.1.swap ho
  have H0 := H
  obtain ⟨⟨vr, vf, vs, hist, H, hl, hc, hok⟩, hi, htm, hN⟩ := H
  have HC := Lib.hid (refFits_any A n c rs w hn hr ho)
  by_cases hf : fitE rs = 0
  · by_cases hv : s.v = 4095
    · obtain ⟨e1, e2⟩ := swapV_top hf hv
      rw [e1, e2]
      rw [hf] at HC
      obtain ⟨x, hx⟩ : ∃ x, x = GatM.gI s.c s.g s.v := ⟨_, rfl⟩
      have HSW : Hid (∀ W, Calls Tryz.prog 53 #[.int .u64 x] W fun e w' => e = .returned (.tuple #[.int .u64 x, .bool false]) ∧ Below W.heap.size W w') := fun W => by
        rw [hx]; exact Ga.refSwap_any hi.fit (.inr ⟨rfl, rfl, hv⟩) W
      rw [← hx] at H
      have HH := Lib.hid H
      have HMK := Lib.hid H0
      clear H H0 hi hd e1 e2 hf hv hx he hn hr ho
      go_enter Tryz.func25, Tryz.ntmps25
      go_wp2_with fail
      go_at_call 36
      refine HC.out.mono ?_
      rintro e w1 ⟨rfl, hb⟩
      have HB := Lib.hid hb
      have c18 := (HH.out.next hb).at_ 18 _ rfl
      clear hb
      go_wp2_with fail
      go_at_call 53
      refine (HSW.out _).mono ?_
      rintro e w2 ⟨rfl, hb⟩
      have HB2 := Lib.hid (below_then HB.out hb)
      clear hb c18
      go_wp2_with fail
      go_ret2
      exact ⟨O, rfl, HMK.out.next HB2.out, Only.of_below HB2.out, fun j hj => .inl hj⟩
    · obtain ⟨e1, e2⟩ := swapV_yes hf hv
      rw [e2] at hd
      rw [e1, e2]
      rw [hf] at HC
      have hF : GatM.Fit s.c s.g (s.v + 1) := ⟨hi.fit.c0, hi.fit.c1, hi.fit.k0, hi.fit.k1, by have := hi.fit.v0; omega, by have := hi.fit.v1; omega⟩
      have HVL : Hid (vs.length ≤ 1000000000000) := by show vs.length ≤ _; have := H.vl; have := hi.fit.v1; omega
      have HLN : Hid (([] : List R).length + n ≤ 100000) := by have h1 := fit_len hf; show _ ≤ _; rw [← hn]; simp only [List.length_nil]; omega
      obtain ⟨x, hx⟩ : ∃ x, x = GatM.gI s.c s.g s.v := ⟨_, rfl⟩
      obtain ⟨y, hy⟩ : ∃ y, y = GatM.gI s.c s.g (s.v + 1) := ⟨_, rfl⟩
      have HSW : Hid (∀ W, Calls Tryz.prog 53 #[.int .u64 x] W fun e w' => e = .returned (.tuple #[.int .u64 y, .bool true]) ∧ Below W.heap.size W w') := fun W => by
        rw [hx, hy]; exact Ga.refSwap_any hi.fit (.inl ⟨rfl, rfl, hv⟩) W
      have HUP : Hid (∀ W, Calls Tryz.prog 32 #[.int .u64 y] W fun e w' => e = .returned (.agg (Ga.gtc (s.v + 1) s.g s.c)) ∧ Below W.heap.size W w') := fun W => hy ▸ Ga.refUnpack_any hF W
      have HMK : Hid (∀ W O' vr' vs', Rf W O' B z N T y vr' vf vs' (hist ++ [rs]) s.fs s.tl → QAt W O' B z N T { s with v := s.v + 1, rl := rs }) := fun W O' vr' vs' h => by
        have hlt : (s.v + 1).toNat = hist.length := by have := hi.fit.v0; omega
        refine ⟨⟨vr', vf, vs', hist ++ [rs], hy ▸ h, ?_, ?_, fun rl hrl => ?_⟩, hd, htm, hN⟩
        · show ((hist ++ [rs]).length : Int) = s.v + 1 + 1
          rw [List.length_append]; simp only [List.length_cons, List.length_nil]; omega
        · show (hist ++ [rs])[(s.v + 1).toNat]? = some rs
          rw [hlt, List.getElem?_append_right (Nat.le_refl _), Nat.sub_self]; rfl
        · rcases List.mem_append.1 hrl with h1 | h1
          · exact hok rl h1
          · obtain rfl := List.mem_singleton.1 h1
            exact ⟨ho, fit_len hf⟩
      obtain ⟨Ar, cr, rfl, -, -⟩ := row_form H.rr
      rw [← hx] at H
      have HH := Lib.hid H
      have HE := Lib.hid he
      have HN := Lib.hid hn
      have HA := Lib.hid hA
      have HR := Lib.hid hr
      clear H H0 hi hd e1 e2 hf hx hy he hn hr ho hF hA hc hok hl hv
      generalize s.v + 1 = v1 at *
      go_enter Tryz.func25, Tryz.ntmps25
      go_wp2_with fail
      go_at_call 36
      refine HC.out.mono ?_
      rintro e w1 ⟨rfl, hb⟩
      have HB := Lib.hid hb
      have c18 := (HH.out.next hb).at_ 18 _ rfl
      clear hb
      go_wp2_with fail
      go_at_call 53
      refine (HSW.out _).mono ?_
      rintro e w2 ⟨rfl, hb⟩
      have HB2 := Lib.hid (below_then HB.out hb)
      clear hb c18
      have c18 := (HH.out.next HB2.out).at_ 18 _ rfl
      have f18 := (HH.out.next HB2.out).blk.frozen 18
      go_wp2_with fail
      have HR3 := Lib.hid ((HH.out.next HB2.out).word y)
      have HO3 := Lib.hid ((Only.of_below HB2.out : Only O w w2).setCell (p := ⟨B, 18, none⟩) (.inl HH.out.ob) (.int .u64 y))
      obtain ⟨W3, hW3⟩ : ∃ v, v = w2.setCell ⟨B, 18, none⟩ (.int .u64 y) := ⟨_, rfl⟩
      simp only [← hW3] at *
      clear hW3 c18 f18
      have HRA := Lib.hid (Rds.only HR.out HO3.out HA.out)
      have HFAR : Hid (∀ j, W3.heap.size ≤ j → Far j) := fun j hj => HE.out.new (Nat.le_trans HO3.out.size hj)
      refine region_e (S := fun w' => Hid (Blk w' B (rcs z N T y (.slice Ar vs.length cr) vf s.tl) 70)) 12 (by kernel_rfl) (Lib.hid HR3.out.blk.drew) (fun hH => ?_)
      refine anyE_take (i := 0) (oi := ⟨some 28, _, _, _, _, _⟩) (v := ?v1) rfl (by kernel_rfl) (by kernel_rfl) (by kernel_rfl) (by kernel_rfl) (fun _ _ _ h => h) (Or.inl ⟨rfl, ?c1⟩) hH ?r1
      case c1 => (intro w' _; go_simp; (try with_reducible rfl))
      try simp only [Act.put, List.setIfInBounds_toArray, List.set_cons_zero, List.set_cons_succ]
      refine anyE_take (i := 1) (oi := ⟨some 29, _, _, _, _, _⟩) (v := ?v2) rfl (by kernel_rfl) (by kernel_rfl) (by kernel_rfl) (by kernel_rfl) (fun _ _ _ h => h) (Or.inl ⟨rfl, ?c2⟩) hH ?r2
      case c2 => (intro w' _; go_simp; (try with_reducible rfl))
      try simp only [Act.put, List.setIfInBounds_toArray, List.set_cons_zero, List.set_cons_succ]
      refine anyE_take (i := 2) (oi := ⟨some 30, _, _, _, _, _⟩) (v := ?v3) rfl (by kernel_rfl) (by kernel_rfl) (by kernel_rfl) (by kernel_rfl) (fun _ _ _ h => h) (Or.inl ⟨rfl, ?c3⟩) hH ?r3
      case c3 => (intro w' _; go_simp; (try with_reducible rfl))
      try simp only [Act.put, List.setIfInBounds_toArray, List.set_cons_zero, List.set_cons_succ]
      refine anyE_take (i := 3) (oi := ⟨some 31, _, _, _, _, _⟩) (v := ?v4) rfl (by kernel_rfl) (by kernel_rfl) (by kernel_rfl) (by kernel_rfl) (fun _ _ _ h => h) (Or.inl ⟨rfl, ?c4⟩) hH ?r4
      case c4 => (intro w' _; go_simp; (try with_reducible rfl))
      try simp only [Act.put, List.setIfInBounds_toArray, List.set_cons_zero, List.set_cons_succ]
      refine anyE_take (i := 4) (oi := ⟨some 32, _, _, _, _, _⟩) (v := ?v5) rfl (by kernel_rfl) (by kernel_rfl) (by kernel_rfl) (by kernel_rfl) (fun _ _ _ h => h) (Or.inl ⟨rfl, ?c5⟩) hH ?r5
      case c5 => (intro w' hS; have x19 := hS.out.cell 19 _ rfl; go_simp; (try with_reducible rfl))
      try simp only [Act.put, List.setIfInBounds_toArray, List.set_cons_zero, List.set_cons_succ]
      refine anyE_take (i := 6) (oi := ⟨some 34, _, _, _, _, _⟩) (v := ?v6) rfl (by kernel_rfl) (by kernel_rfl) (by kernel_rfl) (by kernel_rfl) (fun _ _ _ h => h) (Or.inl ⟨rfl, ?c6⟩) hH ?r6
      case c6 => (intro w' _; go_simp; (try with_reducible rfl))
      try simp only [Act.put, List.setIfInBounds_toArray, List.set_cons_zero, List.set_cons_succ]
      refine anyE_ready (rs := [5]) (by kernel_rfl) (by simp) (AllE.cons rfl (fun K hK => ?_) (AllE.nil))
      go_simp
      refine hK.out _ _ (Lib.hid (hH.out.alloc _)) (fun hH => ?_)
      clear hK K
      have HO := Lib.hid (lit10 W3)
      have HBL : Hid (Below W3.heap.size W3 ((W3.alloc (.cells #[] 62)).drew)) := Lib.hid ((Below.refl W3.heap.size W3).alloc (Nat.le_refl _) _).drew
      generalize (W3.alloc (.cells #[] 62)).drew = w10 at hH HO HBL ⊢
      try simp only [Act.put, List.setIfInBounds_toArray, List.set_cons_zero, List.set_cons_succ]
      refine anyE_ready (rs := [7]) (by kernel_rfl) (by simp) (AllE.cons rfl (fun K hK => ?_) (AllE.nil))
      refine Ma.step_append_rds W3 rfl (.tmp 33) (.tmp 34) rfl _ [] rfl HO.out HBL.out _ A n c rs rfl HN.out (HRA.out.below HBL.out) HLN.out ?_
      intro v11 w11 ho11 hb11
      change K (Act.put _ (some 35) _) _
      refine hK.out _ _ (Lib.hid (HR3.out.blk.next hb11.out)) (fun hH => ?_)
      clear hK K
      replace ho11 : Hid (w11.ownsRow W3.heap.size 62 10 v11 rs.length (cellsRs rs)) := ho11
      obtain ⟨A2, c2, rfl, -, -⟩ := row_form ho11.out
      clear HO HBL
      try simp only [Act.put, List.setIfInBounds_toArray, List.set_cons_zero, List.set_cons_succ]
      refine anyE_ready (rs := [8]) (by kernel_rfl) (by simp) (AllE.cons rfl (fun K hK => ?_) (AllE.nil))
      go_simp
      refine hK.out _ _ (Lib.hid (hH.out.alloc _)) (fun hH => ?_)
      clear hK K
      have HB12 := Lib.hid (below_then hb11.out (below_box w11 (.cells #[.slice A2 rs.length c2] 25)))
      have HO12 := Lib.hid (ho11.out.alloc (.cells #[.slice A2 rs.length c2] 25))
      have HC12 := Lib.hid (cell_one_new w11 (.slice A2 rs.length c2) 25)
      have HRR12 := Lib.hid (row_keep HR3.out.rr fun g e => HB12.out.block g (HR3.out.lt _ (HR3.out.ro g e).1))
      generalize w11.heap.size = g1 at *
      generalize w11.alloc (.cells #[.slice A2 rs.length c2] 25) = w12 at *
      clear ho11 hb11
      try simp only [Act.put, List.setIfInBounds_toArray, List.set_cons_zero, List.set_cons_succ]
      refine anyE_ready (rs := [9]) (by kernel_rfl) (by simp) (AllE.cons rfl (fun K hK => ?_) (AllE.nil))
      refine step_push (vs.length + 1) rfl (.tmp 32) (.tmp 36) 67 25 rfl Tryz.underlying67 _ 1 24 rules_info rfl (by omega) (by omega) _ vs.length vs rfl HRR12.out [.slice A2 rs.length c2] rfl (by intro u hu; obtain rfl := List.mem_singleton.1 hu; rfl) g1 HC12.out rfl rfl HVL.out ?_
      intro A5 c5 w13 ho13 hg13 hor13
      change K (Act.put _ (some 37) _) _
      refine hK.out _ _ (Lib.hid (hH.out.keep (hg13.out.block _ hH.out.lt (fun e => (HR3.out.ro B e.symm).2.1 rfl)))) (fun hH => ?_)
      clear hK K
      clear HC12 HRR12
      try simp only [Act.put, List.setIfInBounds_toArray, List.set_cons_zero, List.set_cons_succ]
      refine anyE_ready (rs := [10]) (by kernel_rfl) (by simp) (AllE.cons rfl (fun K hK => ?_) (AllE.nil))
      go_simp
      refine hK.out _ _ (hH) (fun hH => ?_)
      clear hK K
      try simp only [Act.put, List.setIfInBounds_toArray, List.set_cons_zero, List.set_cons_succ]
      refine anyE_take (i := 11) (oi := ⟨some 39, _, _, _, _, _⟩) (v := ?v7) rfl (by kernel_rfl) (by kernel_rfl) (by kernel_rfl) (by kernel_rfl) (fun _ _ _ h => h) (Or.inl ⟨rfl, ?c7⟩) hH ?r7
      case c7 => (intro w' _; go_simp; (try with_reducible rfl))
      try simp only [Act.put, List.setIfInBounds_toArray, List.set_cons_zero, List.set_cons_succ]
      refine anyE_ready (rs := [12]) (by kernel_rfl) (by simp) (AllE.end_ rfl (fun K hK => ?_))
      have y19 := hH.out.cell 19 _ rfl
      have f19 := hH.out.frozen 19
      go_simp
      clear y19 f19
      refine hK.out _ _ ?_
      clear hK K
      try simp only [Act.put, List.setIfInBounds_toArray, List.set_cons_zero, List.set_cons_succ]
      refine anyE_done (by kernel_rfl) ?_ _
      obtain ⟨hR, hO⟩ := Rf.rules HR3.out HB12.out HO12.out hg13.out ho13.out hor13.out HFAR.out
      have HR5 := Lib.hid hR
      have HO5 := Lib.hid (HO3.out.trans hO fun j h => .inl h)
      have HNW : Hid (∀ j, (O j ∨ (W3.heap.size ≤ j ∧ j < w13.heap.size)) → O j ∨ w.heap.size ≤ j) := fun j hj => hj.elim .inl fun h => .inr (Nat.le_trans HO3.out.size h.1)
      clear hR hO hH HB12 HO12 hg13 ho13 hor13
      obtain ⟨W5, hW5⟩ : ∃ u, w13.setCell ⟨B, 19, none⟩ (.slice A5 (vs.length + 1) c5) = u := ⟨_, rfl⟩
      rw [hW5] at HR5 HO5 ⊢
      clear hW5
      go_wp2_with fail
      go_at_call 32
      refine (HUP.out _).mono ?_
      rintro e w6 ⟨rfl, hb⟩
      have HR6 := Lib.hid (HMK.out _ _ _ _ (HR5.out.next hb))
      have HO6 := Lib.hid (HO5.out.next hb)
      have hfd := field0 (.int .i64 v1) (.int .i64 s.g) (.int .i64 s.c) w6
      clear hb
      go_wp2_with fail
      go_ret2
      exact ⟨_, rfl, HR6.out, HO6.out, HNW.out⟩
  · obtain ⟨e1, e2⟩ := swapV_bad (s := s) hf
    rw [e1, e2]
    have dd : (fitE rs != 0) = true := by simpa using hf
    have HMK := Lib.hid H0
    clear H H0 hi hd e1 e2 hf he hn hr ho
    go_enter Tryz.func25, Tryz.ntmps25
    go_wp2_with fail
    go_at_call 36
    refine HC.out.mono ?_
    rintro e w1 ⟨rfl, hb⟩
    have HB := Lib.hid hb
    clear hb
    go_wp2_with fail
    go_ret2
    exact ⟨O, rfl, HMK.out.next HB.out, Only.of_below HB.out, fun j hj => .inl hj⟩
end Au
end Go.Proofs.YtgcnhbjoalemlaaGreatDoor
