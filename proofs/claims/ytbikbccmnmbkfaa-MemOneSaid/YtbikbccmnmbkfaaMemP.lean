/- Layer 19: a law's memory and what was there before; awake; the methods of no memory; the walk of MemNone. -/
import Derived.Test.YtbikbccmnmbkfaaMemH
import Derived.Test.YtbikbccmnmbkfaaComQ
set_option linter.unusedVariables false
set_option linter.unusedSimpArgs false
set_option maxRecDepth 100000
namespace Go.Proofs.Ytbikbccmnmbkfaa
open Go.ChangeShapes Go.WideShapes Go.ChangeAt Go.RowKit Go.Mtl Go.Lib
namespace Me
open MemM
/-- A memory that a law made; what was there before the law. -/
structure Hm (w : World) (O : Nat → Prop) (B : Nat) (s : Ms) (W : World) : Prop where
  mem : MAt W O B s
  bel : Below w.heap.size w W
  new : ∀ j, O j → w.heap.size ≤ j
section
variable {w W w' : World} {O : Nat → Prop} {B : Nat} {s s' : Ms} {v : Value} {e : Ending}
theorem Hm.next (H : Hm w O B s W) (hb : Below W.heap.size W w') : Hm w O B s w' := ⟨H.mem.next hb, H.bel.trans (hb.mono H.bel.size), H.new⟩
theorem Hm.does (H : Hm w O B s W) (D : Does W O B v s' e w') : ∃ O', e = .returned v ∧ Hm w O' B s' w' := by
  obtain ⟨O', he, hm, ho, hO⟩ := D
  exact ⟨O', he, hm, H.bel.trans (ho.below H.new H.bel.size), fun j hj => (hO j hj).elim (H.new j) (fun h => Nat.le_trans H.bel.size h)⟩
end
section
variable {w W w' : World} {O : Nat → Prop} {B : Nat} {s s' : Ms} {v : Value} {e : Ending}
theorem Hm.does2 (H : Hm w O B s W) (D : Does W O B v s' e w') : ∃ O', e = .returned v ∧ Hm w O' B s' w' ∧ Only O W w' ∧ ∀ j, O' j → O j ∨ W.heap.size ≤ j := by
  obtain ⟨O', he, hm, ho, hO⟩ := D
  exact ⟨O', he, ⟨hm, H.bel.trans (ho.below H.new H.bel.size), fun j hj => (hO j hj).elim (H.new j) (fun h => Nat.le_trans H.bel.size h)⟩, ho, hO⟩
/-- A store into a block of the law's own. -/
theorem Hm.store (H : Hm w O B s W) {g : Nat} (hg : ¬ O g) (hw : w.heap.size ≤ g) (i : Nat) (u : Value) : Hm w O B s (W.setCell ⟨g, i, none⟩ u) :=
  ⟨H.mem.far ((Only.refl (· = g) W).setCell (.inl rfl) u) (fun j hj e => hg (by subst e; exact hj)), H.bel.setCell (p := ⟨g, i, none⟩) hw u, H.new⟩
end
def a1 : Ms := ⟨[5], [-1], [⟨7, 4, 0⟩]⟩
def a2 : Ms := ⟨[5], [-1], [⟨7, 4, 0⟩, ⟨8, 3, 0⟩]⟩
def a3 : Ms := ⟨[5], [7], [⟨7, 4, 0⟩, ⟨8, 3, 0⟩, ⟨7, 1, 1⟩]⟩
def a6 : Ms := ⟨[5], [7], [⟨7, 4, 0⟩, ⟨8, 3, 0⟩, ⟨7, 1, 1⟩, ⟨7, 6, 8⟩]⟩
def a7 : Ms := ⟨[5], [7], [⟨7, 4, 0⟩, ⟨8, 3, 0⟩, ⟨7, 1, 1⟩, ⟨7, 6, 8⟩, ⟨7, 3, 0⟩]⟩
def a8 : Ms := ⟨[5, 9], [7], [⟨7, 4, 0⟩, ⟨8, 3, 0⟩, ⟨7, 1, 1⟩, ⟨7, 6, 8⟩, ⟨7, 3, 0⟩]⟩
theorem s1_is : swapS (newS 1 1) 7 0 0 5 = a1 ∧ swapB (newS 1 1) 0 0 = true := ⟨rfl, rfl⟩
theorem s2_is : swapS a1 8 0 0 6 = a2 ∧ swapB a1 0 0 = false := ⟨rfl, rfl⟩
theorem s3_is : lockS a2 7 0 = a3 ∧ lockB a2 7 0 = true := ⟨rfl, rfl⟩
theorem s4_is : lockS a3 8 0 = a3 ∧ lockB a3 8 0 = false := ⟨rfl, rfl⟩
theorem s5_is : unlockS a3 8 0 = a3 ∧ unlockV a3 8 0 = 13 := ⟨rfl, rfl⟩
theorem s6_is : touchS a3 7 6 2 = a6 ∧ holdV a6 0 = 7 := ⟨rfl, rfl⟩
theorem s7_is : loadS a6 7 0 = a7 ∧ lookV a6 0 = 5 := ⟨rfl, rfl⟩
theorem s8_is : moreS a7 9 = a8 ∧ a7.ws.length = 1 ∧ a8.ws.length = 2 := ⟨rfl, rfl, rfl⟩
/-- The literal of awake. -/
theorem lit_acs (w : World) : Acs (w.alloc (.cells #[.int .i64 7, .int .i64 4, .int .i64 0, .int .i64 8, .int .i64 3, .int .i64 0, .int .i64 7, .int .i64 1, .int .i64 1, .int .i64 7, .int .i64 6, .int .i64 8] 51)) (w.heap.size + 1) (.slice (some ⟨w.heap.size, 0, none⟩) 4 4) a6.ls := by
  refine ⟨_, 4, rfl, Nat.le_refl _, by omega, rfl, fun _ => ⟨w.heap.size, 0, rfl, by omega, fun j u hu => ?_⟩⟩
  rw [Nat.zero_add, cell_of_row _ _ j _ _ (0, 0) (heap_alloc_new w _), List.getElem?_toArray]
  exact hu
set_option maxHeartbeats 4000000 in
theorem awake_any (w : World) : Calls Try.prog 26 #[] w fun e w' => e = .returned (.bool true) ∧ Below w.heap.size w w' := by
  go_enter Try.func26, Try.ntmps26
  go_wp2_with fail
  go_at_call 7
  refine (new_any 1 1 _).mono ?_
  rintro e w0 ⟨O, B, rfl, hm, hb, hO⟩
  have H0 : Hid (Hm w O B (newS 1 1) w0) := ⟨hm, hb, hO⟩
  clear hm hb hO
  go_wp2_with fail
  go_at_call 13
  refine (swap_any H0.out.mem 7 0 0 5 (by omega) (by show 0 ≤ _; omega)).mono ?_
  intro e w1 hd
  rw [s1_is.1, s1_is.2] at hd
  obtain ⟨O1, rfl, hh⟩ := H0.out.does hd
  have H1 := Lib.hid hh
  clear hd hh H0
  go_wp2_with fail
  go_at_call 13
  refine (swap_any H1.out.mem 8 0 0 6 (by omega) (by show 1 ≤ _; omega)).mono ?_
  intro e w2 hd
  rw [s2_is.1, s2_is.2] at hd
  obtain ⟨O2, rfl, hh⟩ := H1.out.does hd
  have H2 := Lib.hid hh
  clear hd hh H1
  go_wp2_with fail
  go_at_call 15
  refine (lock_any H2.out.mem 7 0 (by omega) (by show 2 ≤ _; omega)).mono ?_
  intro e w3 hd
  rw [s3_is.1, s3_is.2] at hd
  obtain ⟨O3, rfl, hh⟩ := H2.out.does hd
  have H3 := Lib.hid hh
  clear hd hh H2
  go_wp2_with fail
  go_at_call 15
  refine (lock_any H3.out.mem 8 0 (by omega) (by show 3 ≤ _; omega)).mono ?_
  intro e w4 hd
  rw [s4_is.1, s4_is.2] at hd
  obtain ⟨O4, rfl, hh⟩ := H3.out.does hd
  have H4 := Lib.hid hh
  clear hd hh H3
  go_wp2_with fail
  go_at_call 17
  refine (unlock_any H4.out.mem 8 0 (by show 3 ≤ _; omega)).mono ?_
  intro e w5 hd
  rw [s5_is.1, s5_is.2] at hd
  obtain ⟨O5, rfl, hh⟩ := H4.out.does hd
  have H5 := Lib.hid hh
  clear hd hh H4
  go_wp2_with fail
  go_at_call 21
  refine (write_any H5.out.mem 7 2 (by show 3 ≤ _; omega)).mono ?_
  intro e w6 hd
  rw [s6_is.1] at hd
  obtain ⟨O6, rfl, hh⟩ := H5.out.does hd
  have H6 := Lib.hid hh
  clear hd hh H5
  go_wp2_with fail
  go_at_call 22
  refine (holder_any H6.out.mem 0).mono ?_
  rw [s6_is.2]
  rintro e w7 ⟨rfl, rfl⟩
  go_wp2_with fail
  go_at_call 28
  refine (log_any H6.out.mem (by show 4 ≤ _; omega)).mono ?_
  rintro e w7 ⟨v, rfl, h1, -, hb⟩
  obtain ⟨A, c, rfl, -, -⟩ := h1.len
  have H7 := Lib.hid (H6.out.next hb)
  have HL := Lib.hid h1
  clear h1 hb H6
  go_wp2_with fail
  have hb8 := below_box w7 (.cells #[.int .i64 7, .int .i64 4, .int .i64 0, .int .i64 8, .int .i64 3, .int .i64 0, .int .i64 7, .int .i64 1, .int .i64 1, .int .i64 7, .int .i64 6, .int .i64 8] 51)
  have HSM := Lib.hid (same_true _ _ a6.ls _ (HL.out.next hb8) ((lit_acs w7).more (by simp)))
  have H8 := Lib.hid (H7.out.next hb8)
  clear hb8 HL H7
  go_at_call 27
  refine HSM.out.mono ?_
  rintro e w9 ⟨rfl, q, rfl⟩
  have H9 := Lib.hid (H8.out.next ((Below.refl _ _).drews q))
  clear HSM H8
  go_wp2_with fail
  go_at_call 11
  refine (load_any H9.out.mem 7 0 (by show 4 ≤ _; omega)).mono ?_
  intro e w10 hd
  rw [s7_is.1, s7_is.2] at hd
  obtain ⟨O10, rfl, hh⟩ := H9.out.does hd
  have H10 := Lib.hid hh
  clear hd hh H9
  go_wp2_with fail
  go_at_call 9
  refine (more_any H10.out.mem 9 (by omega) (by show 1 < _; omega)).mono ?_
  intro e w11 hd
  rw [s8_is.1, s8_is.2.1] at hd
  obtain ⟨O11, rfl, hh⟩ := H10.out.does hd
  have H11 := Lib.hid hh
  clear hd hh H10
  go_wp2_with fail
  go_at_call 24
  refine (words_any H11.out.mem).mono ?_
  rw [s8_is.2.2]
  rintro e w12 ⟨rfl, rfl⟩
  go_wp2_with fail
  go_ret
  exact ⟨rfl, H11.out.bel⟩
theorem more_nil (x : Int) (w : World) : Calls Try.prog 9 #[.pointer none, .int .u64 x] w fun e w' => e = .returned (.int .i64 0) ∧ w = w' := by
  go_enter Try.func9, Try.ntmps9
  go_wp2_with fail
  go_ret
  exact ⟨rfl, rfl⟩
theorem words_nil (w : World) : Calls Try.prog 24 #[.pointer none] w fun e w' => e = .returned (.int .i64 0) ∧ w = w' := by
  go_enter Try.func24, Try.ntmps24
  go_wp2_with fail
  go_ret
  exact ⟨rfl, rfl⟩
theorem look_nil (i : Int) (w : World) : Calls Try.prog 25 #[.pointer none, .int .i64 i] w fun e w' => e = .returned (.int .u64 0) ∧ w = w' := by
  go_enter Try.func25, Try.ntmps25
  go_wp2_with fail
  go_at_call 32
  refine (hasWord_nil i _).mono ?_
  rintro e w' ⟨rfl, rfl⟩
  go_wp2_with fail
  go_ret
  exact ⟨rfl, rfl⟩
theorem load_nil (t i : Int) (w : World) : Calls Try.prog 11 #[.pointer none, .int .i64 t, .int .i64 i] w fun e w' => e = .returned (.int .u64 0) ∧ w = w' := by
  go_enter Try.func11, Try.ntmps11
  go_wp2_with fail
  go_at_call 32
  refine (hasWord_nil i _).mono ?_
  rintro e w' ⟨rfl, rfl⟩
  go_wp2_with fail
  go_at_call 25
  refine (look_nil i _).mono ?_
  rintro e w' ⟨rfl, rfl⟩
  go_wp2_with fail
  go_ret
  exact ⟨rfl, rfl⟩
theorem swap_nil (t i x y : Int) (w : World) : Calls Try.prog 13 #[.pointer none, .int .i64 t, .int .i64 i, .int .u64 x, .int .u64 y] w fun e w' => e = .returned (.bool false) ∧ w = w' := by
  go_enter Try.func13, Try.ntmps13
  go_wp2_with fail
  go_at_call 32
  refine (hasWord_nil i _).mono ?_
  rintro e w' ⟨rfl, rfl⟩
  go_wp2_with fail
  go_ret
  exact ⟨rfl, rfl⟩
theorem lock_nil (t i : Int) (w : World) : Calls Try.prog 15 #[.pointer none, .int .i64 t, .int .i64 i] w fun e w' => e = .returned (.bool false) ∧ w = w' := by
  by_cases h : t < 0
  · go_enter Try.func15, Try.ntmps15
    go_wp2_with fail
    go_ret
    exact ⟨rfl, rfl⟩
  · go_enter Try.func15, Try.ntmps15
    go_wp2_with fail
    go_at_call 35
    refine (hasLock_nil i _).mono ?_
    rintro e w' ⟨rfl, rfl⟩
    go_wp2_with fail
    go_ret
    exact ⟨rfl, rfl⟩
theorem unlock_nil (t i : Int) (w : World) : Calls Try.prog 17 #[.pointer none, .int .i64 t, .int .i64 i] w fun e w' => e = .returned (.int .i64 1) ∧ w = w' := by
  go_enter Try.func17, Try.ntmps17
  go_wp2_with fail
  go_ret
  exact ⟨rfl, rfl⟩
theorem holder_nil (i : Int) (w : World) : Calls Try.prog 22 #[.pointer none, .int .i64 i] w fun e w' => e = .returned (.int .i64 (-1)) ∧ w = w' := by
  go_enter Try.func22, Try.ntmps22
  go_wp2_with fail
  go_at_call 35
  refine (hasLock_nil i _).mono ?_
  rintro e w' ⟨rfl, rfl⟩
  go_wp2_with fail
  go_ret
  exact ⟨rfl, rfl⟩
theorem log_nil (w : World) : Calls Try.prog 28 #[.pointer none] w fun e w' => e = .returned (.slice none 0 0) ∧ w = w' := by
  go_enter Try.func28, Try.ntmps28
  go_wp2_with fail
  go_ret
  exact ⟨rfl, rfl⟩
theorem touch_nil (t k i : Int) (w : World) : Calls Try.prog 36 #[.pointer none, .int .i64 t, .int .i64 k, .int .i64 i] w fun e w' => e = .returned (.tuple #[]) ∧ w = w' := by
  go_enter Try.func36, Try.ntmps36
  go_wp2_with fail
  go_end0
  exact ⟨rfl, rfl⟩
theorem read_nil (t i : Int) (w : World) : Calls Try.prog 19 #[.pointer none, .int .i64 t, .int .i64 i] w fun e w' => e = .returned (.tuple #[]) ∧ w = w' := by
  go_enter Try.func19, Try.ntmps19
  go_wp2_with fail
  go_at_call 36
  refine (touch_nil t 5 i _).mono ?_
  rintro e w' ⟨rfl, rfl⟩
  go_wp2_with fail
  go_end0
  exact ⟨rfl, rfl⟩
theorem write_nil (t i : Int) (w : World) : Calls Try.prog 21 #[.pointer none, .int .i64 t, .int .i64 i] w fun e w' => e = .returned (.tuple #[]) ∧ w = w' := by
  go_enter Try.func21, Try.ntmps21
  go_wp2_with fail
  go_at_call 36
  refine (touch_nil t 6 i _).mono ?_
  rintro e w' ⟨rfl, rfl⟩
  go_wp2_with fail
  go_end0
  exact ⟨rfl, rfl⟩
set_option maxHeartbeats 4000000 in
theorem memNone_walk (t i x : Int) (w : World) (ht : -9223372036854775808 ≤ t ∧ t ≤ 9223372036854775807) (hi : -9223372036854775808 ≤ i ∧ i ≤ 9223372036854775807) (hx : 0 ≤ x ∧ x ≤ 18446744073709551615) :
    Calls Try.prog 6 #[.int .i64 t, .int .i64 i, .int .u64 x] w fun e w' => e = .returned (.bool true) ∧ Below w.heap.size w w' := by
  clear ht hi hx
  go_enter Try.func6, Try.ntmps6
  go_wp2_with fail
  go_at_call 19
  refine (read_nil t i _).mono ?_
  rintro e w' ⟨rfl, rfl⟩
  go_wp2_with fail
  go_at_call 21
  refine (write_nil t i _).mono ?_
  rintro e w' ⟨rfl, rfl⟩
  go_wp2_with fail
  go_at_call 26
  refine (awake_any _).mono ?_
  rintro e w1 ⟨rfl, hb⟩
  have HB := Lib.hid hb
  clear hb
  go_wp2_with fail
  go_at_call 9
  refine (more_nil x _).mono ?_
  rintro e w' ⟨rfl, rfl⟩
  go_wp2_with fail
  go_at_call 24
  refine (words_nil _).mono ?_
  rintro e w' ⟨rfl, rfl⟩
  go_wp2_with fail
  go_at_call 11
  refine (load_nil t i _).mono ?_
  rintro e w' ⟨rfl, rfl⟩
  go_wp2_with fail
  go_at_call 13
  refine (swap_nil t i x x _).mono ?_
  rintro e w' ⟨rfl, rfl⟩
  go_wp2_with fail
  go_at_call 15
  refine (lock_nil t i _).mono ?_
  rintro e w' ⟨rfl, rfl⟩
  go_wp2_with fail
  go_at_call 17
  refine (unlock_nil t i _).mono ?_
  rintro e w' ⟨rfl, rfl⟩
  go_wp2_with fail
  go_at_call 22
  refine (holder_nil i _).mono ?_
  rintro e w' ⟨rfl, rfl⟩
  go_wp2_with fail
  go_at_call 28
  refine (log_nil _).mono ?_
  rintro e w' ⟨rfl, rfl⟩
  go_wp2_with fail
  go_at_call 25
  refine (look_nil i _).mono ?_
  rintro e w' ⟨rfl, rfl⟩
  go_wp2_with fail
  go_ret
  exact ⟨rfl, HB.out⟩
end Me
end Go.Proofs.Ytbikbccmnmbkfaa
