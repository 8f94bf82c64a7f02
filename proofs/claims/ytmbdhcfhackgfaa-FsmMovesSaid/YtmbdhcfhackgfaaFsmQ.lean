/- Layer 17: the walks of FsmTcp, FsmMoves and FsmUntil. (Written by wip/tools/mkFsmQ.py.) -/
import Derived.Test.YtmbdhcfhackgfaaFsmP
import Derived.Test.YtmbdhcfhackgfaaFsmC
import Derived.Deep.MidRow
import Derived.Deep.RegionHeldLaw
set_option linter.unusedVariables false
set_option linter.unusedSimpArgs false
namespace Go.Proofs.Ytmbdhcfhackgfaa
open Go.ChangeShapes Go.WideShapes Go.ChangeAt Go.RowKit Go.Mtl Go.Lib
namespace Fs
open TraM (nextN nextB openN openB)

/-- A packet written out, as a walk wants it. -/
theorem open_pk (p0 p1 p2 p3 p4 p5 p6 n : Int) (y : Bool) (hf : 0 ≤ p5 ∧ p5 ≤ 255) (h1 : opN p0 p5 p6 = n) (h2 : opB p0 p5 p6 = y) (W : World) :
    Calls Try.prog 6 #[.agg #[.int .u8 p0, .int .u32 p1, .int .u32 p2, .int .u16 p3, .int .u16 p4, .int .u8 p5, .int .u8 p6]] W fun x w' => x = .returned (.tuple #[.int .i64 n, .bool y]) ∧ Below W.heap.size W w' := by
  subst h1 h2
  exact open_any p0 p1 p2 p3 p4 p5 p6 hf W
theorem next_pk (s : Int) (r : Bool) (p0 p1 p2 p3 p4 p5 p6 n : Int) (y : Bool) (hs : -9223372036854775808 ≤ s ∧ s ≤ 9223372036854775807) (hf : 0 ≤ p5 ∧ p5 ≤ 255) (h1 : neN s r p0 p5 p6 = n) (h2 : neB s r p0 p5 p6 = y) (W : World) :
    Calls Try.prog 8 #[.int .i64 s, .bool r, .agg #[.int .u8 p0, .int .u32 p1, .int .u32 p2, .int .u16 p3, .int .u16 p4, .int .u8 p5, .int .u8 p6]] W fun x w' => x = .returned (.tuple #[.int .i64 n, .bool y]) ∧ Below W.heap.size W w' := by
  subst h1 h2
  exact next_any s r p0 p1 p2 p3 p4 p5 p6 hs hf W
theorem refOpen_pk (p0 p1 p2 p3 p4 p5 p6 n : Int) (y : Bool) (hf : 0 ≤ p5 ∧ p5 ≤ 255) (h1 : opN p0 p5 p6 = n) (h2 : opB p0 p5 p6 = y) (W : World) :
    Calls Try.prog 7 #[.agg #[.int .u8 p0, .int .u32 p1, .int .u32 p2, .int .u16 p3, .int .u16 p4, .int .u8 p5, .int .u8 p6]] W fun x w' => x = .returned (.tuple #[.int .i64 n, .bool y]) ∧ Below W.heap.size W w' := by
  subst h1 h2
  exact refOpen_any p0 p1 p2 p3 p4 p5 p6 hf W
theorem refNext_pk (s : Int) (r : Bool) (p0 p1 p2 p3 p4 p5 p6 n : Int) (y : Bool) (hs : -9223372036854775808 ≤ s ∧ s ≤ 9223372036854775807) (hf : 0 ≤ p5 ∧ p5 ≤ 255) (h1 : neN s r p0 p5 p6 = n) (h2 : neB s r p0 p5 p6 = y) (W : World) :
    Calls Try.prog 9 #[.int .i64 s, .bool r, .agg #[.int .u8 p0, .int .u32 p1, .int .u32 p2, .int .u16 p3, .int .u16 p4, .int .u8 p5, .int .u8 p6]] W fun x w' => x = .returned (.tuple #[.int .i64 n, .bool y]) ∧ Below W.heap.size W w' := by
  subst h1 h2
  exact refNext_any s r p0 p1 p2 p3 p4 p5 p6 hs hf W
theorem trOpen (f n : Int) (y : Bool) (hf : 0 ≤ f ∧ f ≤ 255) (h1 : openN f.toNat = n) (h2 : openB f.toNat = y) (W : World) :
    Calls Try.prog 13 #[.int .u8 f] W fun x w' => x = .returned (.tuple #[.int .i64 n, .bool y]) ∧ Below W.heap.size W w' := by
  subst h1 h2
  have := Tr.open_any f.toNat (by omega) W
  rw [Int.toNat_of_nonneg hf.1] at this
  exact this.mono fun x w' ⟨he, hw⟩ => ⟨he, by rw [hw]; exact Below.refl _ _⟩
theorem trNext (s : Int) (r : Bool) (f n : Int) (y : Bool) (hs : -9223372036854775808 ≤ s ∧ s ≤ 9223372036854775807) (hf : 0 ≤ f ∧ f ≤ 255) (h1 : nextN s r f.toNat = n) (h2 : nextB s r f.toNat = y) (W : World) :
    Calls Try.prog 14 #[.int .i64 s, .bool r, .int .u8 f] W fun x w' => x = .returned (.tuple #[.int .i64 n, .bool y]) ∧ Below W.heap.size W w' := by
  subst h1 h2
  have := Tr.next_any s r f.toNat hs (by omega) W
  rwa [Int.toNat_of_nonneg hf.1] at this
/-- Not of TCP: what opens is Asked; what goes on is from Asked to Answered. -/
theorem op_else {p f k : Int} (h : p ≠ 6) : opB p f k = false ∨ opB p f k = true ∧ opN p f k = 8 := by
  unfold opB opN
  rw [if_neg h, if_neg h]
  by_cases h2 : p = 17 ∨ p = 1 ∧ k = 8
  · exact .inr ⟨decide_eq_true h2, if_pos h2⟩
  · exact .inl (decide_eq_false h2)
theorem ne_else {s p f k : Int} {r : Bool} (h : p ≠ 6) : neB s r p f k = false ∨ neB s r p f k = true ∧ 8 ≤ s ∧ s ≤ 9 ∧ s ≤ neN s r p f k ∧ neN s r p f k ≤ 9 := by
  unfold neB neN
  rw [if_neg h, if_neg h]
  by_cases h2 : Fits p k r
  · rw [if_pos h2, if_pos h2]
    unfold talkB talkN
    by_cases h3 : s = 8 ∨ s = 9
    · refine .inr ⟨decide_eq_true h3, by omega, by omega, ?_⟩
      rw [if_pos h3]
      cases r <;> simp <;> omega
    · exact .inl (decide_eq_false h3)
  · rw [if_neg h2]
    exact .inl rfl

set_option maxHeartbeats 2000000 in
theorem fsmTcp_walk (a0 : Int) (a1 : Bool) (p0 p1 p2 p3 p4 p5 p6 : Int) (w : World) (w0 : -9223372036854775808 ≤ a0 ∧ a0 ≤ 9223372036854775807) (hp : (0 ≤ p0 ∧ p0 ≤ 255) ∧ (0 ≤ p1 ∧ p1 ≤ 4294967295) ∧ (0 ≤ p2 ∧ p2 ≤ 4294967295) ∧ (0 ≤ p3 ∧ p3 ≤ 65535) ∧ (0 ≤ p4 ∧ p4 ≤ 65535) ∧ (0 ≤ p5 ∧ p5 ≤ 255) ∧ (0 ≤ p6 ∧ p6 ≤ 255)) :
    Calls Try.prog 4 #[.int .i64 a0, .bool a1, .agg #[.int .u8 p0, .int .u32 p1, .int .u32 p2, .int .u16 p3, .int .u16 p4, .int .u8 p5, .int .u8 p6]] w fun e w' => e = .returned (.bool true) ∧ Below w.heap.size w w' := by
  obtain ⟨-, -, -, -, -, hf, -⟩ := hp
  have HX0 := Lib.hid (Blk.box w (pkc p0 p1 p2 p3 p4 p5 p6) 25)
  have HB0 := Lib.hid (below_pk w (.cells (pkc p0 p1 p2 p3 p4 p5 p6) 25))
  obtain ⟨x0, x1, x2, x3, x4, x5, x6⟩ := pk_cells HX0.out
  by_cases h6 : p0 = 6
  · subst h6
    obtain ⟨on, hon⟩ : ∃ n, openN p5.toNat = n := ⟨_, rfl⟩
    obtain ⟨ob, hob⟩ : ∃ n, openB p5.toNat = n := ⟨_, rfl⟩
    obtain ⟨nn, hnn⟩ : ∃ n, nextN a0 a1 p5.toNat = n := ⟨_, rfl⟩
    obtain ⟨nb, hnb⟩ : ∃ n, nextB a0 a1 p5.toNat = n := ⟨_, rfl⟩
    have C0 := Lib.hid (open_pk 6 p1 p2 p3 p4 p5 p6 on ob hf (by unfold opN; rw [if_pos rfl, hon]) (by unfold opB; rw [if_pos rfl, hob]))
    have C1 := Lib.hid (next_pk a0 a1 6 p1 p2 p3 p4 p5 p6 nn nb w0 hf (by unfold neN; rw [if_pos rfl, hnn]) (by unfold neB; rw [if_pos rfl, hnb]))
    have C2 := Lib.hid (trOpen p5 on ob hf hon hob)
    have C3 := Lib.hid (trNext a0 a1 p5 nn nb w0 hf hnn hnb)
    clear hon hob hnn hnb hf w0
    go_enter Try.func4, Try.ntmps4
    go_wp2_with fail
    go_at_call 6
    refine (C0.out _).mono ?_
    rintro e w1 ⟨rfl, hb⟩
    have HB1 := Lib.hid (HB0.out.trans (hb.mono HB0.out.size))
    have HX1 := Lib.hid (HX0.out.next hb)
    clear hb x0 x1 x2 x3 x4 x5 x6
    obtain ⟨x0, x1, x2, x3, x4, x5, x6⟩ := pk_cells HX1.out
    go_wp2_with fail
    go_at_call 8
    refine (C1.out _).mono ?_
    rintro e w2 ⟨rfl, hb⟩
    have HB2 := Lib.hid (HB1.out.trans (hb.mono HB1.out.size))
    have HX2 := Lib.hid (HX1.out.next hb)
    clear hb x0 x1 x2 x3 x4 x5 x6
    obtain ⟨x0, x1, x2, x3, x4, x5, x6⟩ := pk_cells HX2.out
    go_wp2_with fail
    go_at_call 13
    refine (C2.out _).mono ?_
    rintro e w3 ⟨rfl, hb⟩
    have HB3 := Lib.hid (HB2.out.trans (hb.mono HB2.out.size))
    have HX3 := Lib.hid (HX2.out.next hb)
    clear hb x0 x1 x2 x3 x4 x5 x6
    obtain ⟨x0, x1, x2, x3, x4, x5, x6⟩ := pk_cells HX3.out
    go_wp2_with fail
    go_at_call 14
    refine (C3.out _).mono ?_
    rintro e w4 ⟨rfl, hb⟩
    have HB4 := Lib.hid (HB3.out.trans (hb.mono HB3.out.size))
    have HX4 := Lib.hid (HX3.out.next hb)
    clear hb x0 x1 x2 x3 x4 x5 x6
    obtain ⟨x0, x1, x2, x3, x4, x5, x6⟩ := pk_cells HX4.out
    go_wp2_with fail
    go_at_call 10
    refine (awake_any _).mono ?_
    rintro e w5 ⟨rfl, hb⟩
    have HB5 := Lib.hid (HB4.out.trans (hb.mono HB4.out.size))
    have HX5 := Lib.hid (HX4.out.next hb)
    clear hb x0 x1 x2 x3 x4 x5 x6
    obtain ⟨x0, x1, x2, x3, x4, x5, x6⟩ := pk_cells HX5.out
    go_wp2_with fail
    go_ret
    exact ⟨rfl, HB5.out⟩
  · have d6 : (p0 == 6) = false := by simpa using h6
    have F0 := Lib.hid (op_else (f := p5) (k := p6) h6)
    have F1 := Lib.hid (ne_else (s := a0) (f := p5) (k := p6) (r := a1) h6)
    obtain ⟨on, hon⟩ : ∃ n, opN p0 p5 p6 = n := ⟨_, rfl⟩
    obtain ⟨ob, hob⟩ : ∃ n, opB p0 p5 p6 = n := ⟨_, rfl⟩
    obtain ⟨nn, hnn⟩ : ∃ n, neN a0 a1 p0 p5 p6 = n := ⟨_, rfl⟩
    obtain ⟨nb, hnb⟩ : ∃ n, neB a0 a1 p0 p5 p6 = n := ⟨_, rfl⟩
    have C0 := Lib.hid (open_pk p0 p1 p2 p3 p4 p5 p6 on ob hf hon hob)
    have C1 := Lib.hid (next_pk a0 a1 p0 p1 p2 p3 p4 p5 p6 nn nb w0 hf hnn hnb)
    rw [hon, hob] at F0
    rw [hnn, hnb] at F1
    clear hon hob hnn hnb hf w0 h6
    have f0 := F0.out
    have f1 := F1.out
    clear F0 F1
    rcases f0 with rfl | ⟨rfl, rfl⟩ <;> rcases f1 with rfl | ⟨rfl, f2, f3, f4, f5⟩
    all_goals
      go_enter Try.func4, Try.ntmps4
      go_wp2_with fail
      go_at_call 6
      refine (C0.out _).mono ?_
      rintro e w1 ⟨rfl, hb⟩
      have HB1 := Lib.hid (HB0.out.trans (hb.mono HB0.out.size))
      have HX1 := Lib.hid (HX0.out.next hb)
      clear hb x0 x1 x2 x3 x4 x5 x6
      obtain ⟨x0, x1, x2, x3, x4, x5, x6⟩ := pk_cells HX1.out
      go_wp2_with fail
      go_at_call 8
      refine (C1.out _).mono ?_
      rintro e w2 ⟨rfl, hb⟩
      have HB2 := Lib.hid (HB1.out.trans (hb.mono HB1.out.size))
      have HX2 := Lib.hid (HX1.out.next hb)
      clear hb x0 x1 x2 x3 x4 x5 x6
      obtain ⟨x0, x1, x2, x3, x4, x5, x6⟩ := pk_cells HX2.out
      go_wp2_with fail
      go_at_call 10
      refine (awake_any _).mono ?_
      rintro e w3 ⟨rfl, hb⟩
      have HB3 := Lib.hid (HB2.out.trans (hb.mono HB2.out.size))
      have HX3 := Lib.hid (HX2.out.next hb)
      clear hb x0 x1 x2 x3 x4 x5 x6
      obtain ⟨x0, x1, x2, x3, x4, x5, x6⟩ := pk_cells HX3.out
      go_wp2_with fail
      go_ret
      exact ⟨rfl, HB3.out⟩

theorem load_six {w : World} {g : Nat} {cs : Array Value} (h : Blk w g cs 26) (hz : cs.size = 16) :
    (Instr.loadAt 26 (.pointer (some ⟨g, 0, none⟩))).run Try.prog w = .ok (.agg cs) w := by
  have hi : (Try.prog.info? 26).map (·.size) = some cs.size := by rw [hz]; kernel_rfl
  simp only [Instr.loadAt, Instr.sureAddr, Sem.run_bind, Sem.run_pure, Result.andThen_ok, run_loadVar_row w g _ _ cs _ _ h Try.underlying26 rfl hi]

theorem take_six {w : World} {g : Nat} {cs : Array Value} (h : Blk w g cs 26) (hz : cs.size = 16) {ρ : Operand → Value} {o : Oper} (x : Operand) (ho : o.op = .load 26 x) (hx : ρ x = .pointer (some ⟨g, 0, none⟩)) :
    (execOp ρ o).run Try.prog w = .ok (.value (.agg cs)) w := by
  have hi : (Try.prog.info? 26).map (·.size) = some cs.size := by rw [hz]; kernel_rfl
  unfold execOp
  simp only [ho, hx, Instr.loadAt, Instr.sureAddr, Sem.run_bind, Sem.run_pure, Result.andThen_ok, run_loadVar_row w g _ _ cs _ _ h Try.underlying26 rfl hi]

set_option maxHeartbeats 4000000 in
theorem fsmMoves_walk (a0 : Int) (a1 : Bool) (p0 p1 p2 p3 p4 p5 p6 : Int) (cs : Array Value) (t : Nat → Int) (a4 : Int) (w : World) (w0 : -9223372036854775808 ≤ a0 ∧ a0 ≤ 9223372036854775807) (hp : (0 ≤ p0 ∧ p0 ≤ 255) ∧ (0 ≤ p1 ∧ p1 ≤ 4294967295) ∧ (0 ≤ p2 ∧ p2 ≤ 4294967295) ∧ (0 ≤ p3 ∧ p3 ≤ 65535) ∧ (0 ≤ p4 ∧ p4 ≤ 65535) ∧ (0 ≤ p5 ∧ p5 ≤ 255) ∧ (0 ≤ p6 ∧ p6 ≤ 255)) (hT : Six cs t) (w4 : -9223372036854775808 ≤ a4 ∧ a4 ≤ 9223372036854775807) :
    Calls Try.prog 3 #[.int .i64 a0, .bool a1, .agg #[.int .u8 p0, .int .u32 p1, .int .u32 p2, .int .u16 p3, .int .u16 p4, .int .u8 p5, .int .u8 p6], .agg cs, .int .i64 a4] w fun e w' => e = .returned (.bool true) ∧ Below w.heap.size w w' := by
  obtain ⟨-, -, -, -, -, hf, -⟩ := hp
  obtain ⟨on, hon⟩ : ∃ n, opN p0 p5 p6 = n := ⟨_, rfl⟩
  obtain ⟨ob, hob⟩ : ∃ n, opB p0 p5 p6 = n := ⟨_, rfl⟩
  obtain ⟨nn, hnn⟩ : ∃ n, neN a0 a1 p0 p5 p6 = n := ⟨_, rfl⟩
  obtain ⟨nb, hnb⟩ : ∃ n, neB a0 a1 p0 p5 p6 = n := ⟨_, rfl⟩
  have C0 := Lib.hid (open_pk p0 p1 p2 p3 p4 p5 p6 on ob hf hon hob)
  have C1 := Lib.hid (refOpen_pk p0 p1 p2 p3 p4 p5 p6 on ob hf hon hob)
  have C2 := Lib.hid (next_pk a0 a1 p0 p1 p2 p3 p4 p5 p6 nn nb w0 hf hnn hnb)
  have C3 := Lib.hid (refNext_pk a0 a1 p0 p1 p2 p3 p4 p5 p6 nn nb w0 hf hnn hnb)
  have C4 := Lib.hid (until_any cs t hT a0 a4)
  have C5 := Lib.hid (refUntil_any cs t hT a0 a4)
  have HZ := Lib.hid hT.size
  generalize untN t a0 a4 = un at C4 C5
  clear hon hob hnn hnb hf w0 w4 hT
  have HX0 := Lib.hid ((Blk.box w (pkc p0 p1 p2 p3 p4 p5 p6) 25).alloc (.cells cs 26))
  have HT0 := Lib.hid (Blk.box1 w (.cells (pkc p0 p1 p2 p3 p4 p5 p6) 25) cs 26)
  have HB0 := Lib.hid ((below_pk w (.cells (pkc p0 p1 p2 p3 p4 p5 p6) 25)).alloc (by simp) (.cells cs 26))
  obtain ⟨x0, x1, x2, x3, x4, x5, x6⟩ := pk_cells HX0.out
  go_enter Try.func3, Try.ntmps3
  go_wp2_with fail
  go_at_call 6
  refine (C0.out _).mono ?_
  rintro e w1 ⟨rfl, hb⟩
  have HB1 := Lib.hid (HB0.out.trans (hb.mono HB0.out.size))
  have HX1 := Lib.hid (HX0.out.next hb)
  have HT1 := Lib.hid (HT0.out.next hb)
  clear hb x0 x1 x2 x3 x4 x5 x6
  obtain ⟨x0, x1, x2, x3, x4, x5, x6⟩ := pk_cells HX1.out
  go_wp2_with fail
  go_at_call 7
  refine (C1.out _).mono ?_
  rintro e w2 ⟨rfl, hb⟩
  have HB2 := Lib.hid (HB1.out.trans (hb.mono HB1.out.size))
  have HX2 := Lib.hid (HX1.out.next hb)
  have HT2 := Lib.hid (HT1.out.next hb)
  clear hb x0 x1 x2 x3 x4 x5 x6
  obtain ⟨x0, x1, x2, x3, x4, x5, x6⟩ := pk_cells HX2.out
  go_wp2_with fail
  go_at_call 8
  refine (C2.out _).mono ?_
  rintro e w3 ⟨rfl, hb⟩
  have HB3 := Lib.hid (HB2.out.trans (hb.mono HB2.out.size))
  have HX3 := Lib.hid (HX2.out.next hb)
  have HT3 := Lib.hid (HT2.out.next hb)
  clear hb x0 x1 x2 x3 x4 x5 x6
  obtain ⟨x0, x1, x2, x3, x4, x5, x6⟩ := pk_cells HX3.out
  go_wp2_with fail
  go_at_call 9
  refine (C3.out _).mono ?_
  rintro e w4 ⟨rfl, hb⟩
  have HB4 := Lib.hid (HB3.out.trans (hb.mono HB3.out.size))
  have HX4 := Lib.hid (HX3.out.next hb)
  have HT4 := Lib.hid (HT3.out.next hb)
  clear hb x0 x1 x2 x3 x4 x5 x6
  go_wp2_with fail
  refine wp_region_held_drew (S := fun w' => Blk w' (w.heap.size + 1) cs 26 ∧ Below w.heap.size w w') (by kernel_rfl) (⟨HT4.out.drew, HB4.out.drew⟩) (fun hH => ?_)
  refine wpAnyH_ready (rs := [0]) (by kernel_rfl) (by simp) (AllReadyH.cons rfl (fun K hK => ?_) (AllReadyH.nil))
  go_simp
  go_at_call 10
  refine (awake_any _).mono ?_
  rintro e w6 ⟨rfl, hbp⟩
  refine hK.out _ _ (⟨hH.1.next hbp, hH.2.trans (hbp.mono hH.2.size)⟩) (fun hH => ?_)
  clear hK K
  clear hbp
  try simp only [Act.put, List.setIfInBounds_toArray, List.set_cons_zero, List.set_cons_succ]
  refine wpAnyH_take (i := 1) (oi := ⟨some 44, _, _, _, _, _⟩) (v := ?v1) rfl (by kernel_rfl) (by kernel_rfl) (by kernel_rfl) (fun _ _ _ h => h) (Or.inl ⟨rfl, ?c1⟩) hH ?r1
  case c1 => (intro w' _; go_simp; (try with_reducible rfl))
  try simp only [Act.put, List.setIfInBounds_toArray, List.set_cons_zero, List.set_cons_succ]
  refine wpAnyH_take (i := 2) (oi := ⟨some 45, _, _, _, _, _⟩) (v := ?v2) rfl (by kernel_rfl) (by kernel_rfl) (by kernel_rfl) (fun _ _ _ h => h) (Or.inl ⟨rfl, ?c2⟩) hH ?r2
  case c2 => (intro w' _; go_simp; (try with_reducible rfl))
  try simp only [Act.put, List.setIfInBounds_toArray, List.set_cons_zero, List.set_cons_succ]
  refine wpAnyH_take (i := 3) (oi := ⟨some 46, _, _, _, _, _⟩) (v := ?v3) rfl (by kernel_rfl) (by kernel_rfl) (by kernel_rfl) (fun _ _ _ h => h) (Or.inl ⟨rfl, ?c3⟩) hH ?r3
  case c3 => (intro w' _; go_simp; (try with_reducible rfl))
  try simp only [Act.put, List.setIfInBounds_toArray, List.set_cons_zero, List.set_cons_succ]
  refine wpAnyH_take (i := 4) (oi := ⟨some 47, _, _, _, _, _⟩) (v := ?v4) rfl (by kernel_rfl) (by kernel_rfl) (by kernel_rfl) (fun _ _ _ h => h) (Or.inl ⟨rfl, ?c4⟩) hH ?r4
  case c4 => (intro w' _; go_simp; (try with_reducible rfl))
  try simp only [Act.put, List.setIfInBounds_toArray, List.set_cons_zero, List.set_cons_succ]
  refine wpAnyH_take (i := 5) (oi := ⟨some 48, _, _, _, _, _⟩) (v := ?v5) rfl (by kernel_rfl) (by kernel_rfl) (by kernel_rfl) (fun _ _ _ h => h) (Or.inl ⟨rfl, ?c5⟩) hH ?r5
  case c5 => (intro w' _; go_simp; (try with_reducible rfl))
  try simp only [Act.put, List.setIfInBounds_toArray, List.set_cons_zero, List.set_cons_succ]
  refine wpAnyH_take (i := 6) (oi := ⟨some 49, _, _, _, _, _⟩) (v := ?v6) rfl (by kernel_rfl) (by kernel_rfl) (by kernel_rfl) (fun _ _ _ h => h) (Or.inl ⟨rfl, ?c6⟩) hH ?r6
  case c6 => (intro w' _; go_simp; (try with_reducible rfl))
  try simp only [Act.put, List.setIfInBounds_toArray, List.set_cons_zero, List.set_cons_succ]
  refine wpAnyH_take (i := 7) (oi := ⟨some 50, _, _, _, _, _⟩) (v := ?v7) rfl (by kernel_rfl) (by kernel_rfl) (by kernel_rfl) (fun _ _ _ h => h) (Or.inl ⟨rfl, ?c7⟩) hH ?r7
  case c7 => (intro w' _; go_simp; (try with_reducible rfl))
  try simp only [Act.put, List.setIfInBounds_toArray, List.set_cons_zero, List.set_cons_succ]
  refine wpAnyH_take (i := 8) (oi := ⟨some 51, _, _, _, _, _⟩) (v := ?v8) rfl (by kernel_rfl) (by kernel_rfl) (by kernel_rfl) (fun _ _ _ h => h) (Or.inl ⟨rfl, ?c8⟩) hH ?r8
  case c8 => (intro w' _; go_simp; (try with_reducible rfl))
  try simp only [Act.put, List.setIfInBounds_toArray, List.set_cons_zero, List.set_cons_succ]
  refine wpAnyH_take (i := 9) (oi := ⟨some 52, _, _, _, _, _⟩) (v := ?v9) rfl (by kernel_rfl) (by kernel_rfl) (by kernel_rfl) (fun _ _ _ h => h) (Or.inl ⟨rfl, ?c9⟩) hH ?r9
  case c9 => (intro w' _; go_simp; (try with_reducible rfl))
  try simp only [Act.put, List.setIfInBounds_toArray, List.set_cons_zero, List.set_cons_succ]
  refine wpAnyH_take (i := 10) (oi := ⟨some 53, _, _, _, _, _⟩) (v := ?v10) rfl (by kernel_rfl) (by kernel_rfl) (by kernel_rfl) (fun _ _ _ h => h) (Or.inl ⟨rfl, ?c10⟩) hH ?r10
  case c10 => (intro w' _; go_simp; (try with_reducible rfl))
  try simp only [Act.put, List.setIfInBounds_toArray, List.set_cons_zero, List.set_cons_succ]
  refine wpAnyH_take (i := 11) (oi := ⟨some 54, _, _, _, _, _⟩) (v := ?v11) rfl (by kernel_rfl) (by kernel_rfl) (by kernel_rfl) (fun _ _ _ h => h) (Or.inl ⟨rfl, ?c11⟩) hH ?r11
  case c11 => (intro w' _; go_simp; (try with_reducible rfl))
  try simp only [Act.put, List.setIfInBounds_toArray, List.set_cons_zero, List.set_cons_succ]
  refine wpAnyH_take (i := 12) (oi := ⟨some 55, _, _, _, _, _⟩) (v := ?v12) rfl (by kernel_rfl) (by kernel_rfl) (by kernel_rfl) (fun _ _ _ h => h) (Or.inl ⟨rfl, ?c12⟩) hH ?r12
  case c12 => (intro w' _; go_simp; (try with_reducible rfl))
  try simp only [Act.put, List.setIfInBounds_toArray, List.set_cons_zero, List.set_cons_succ]
  refine wpAnyH_take (i := 13) (oi := ⟨some 56, _, _, _, _, _⟩) (v := ?v13) rfl (by kernel_rfl) (by kernel_rfl) (by kernel_rfl) (fun _ _ _ h => h) (Or.inl ⟨rfl, ?c13⟩) hH ?r13
  case c13 => (intro w' _; go_simp; (try with_reducible rfl))
  try simp only [Act.put, List.setIfInBounds_toArray, List.set_cons_zero, List.set_cons_succ]
  refine wpAnyH_take (i := 14) (oi := ⟨some 57, _, _, _, _, _⟩) (v := ?v14) rfl (by kernel_rfl) (by kernel_rfl) (by kernel_rfl) (fun _ _ _ h => h) (Or.inl ⟨rfl, ?c14⟩) hH ?r14
  case c14 => (intro w' _; go_simp; (try with_reducible rfl))
  try simp only [Act.put, List.setIfInBounds_toArray, List.set_cons_zero, List.set_cons_succ]
  refine wpAnyH_take (i := 15) (oi := ⟨some 58, _, _, _, _, _⟩) (v := ?v15) rfl (by kernel_rfl) (by kernel_rfl) (by kernel_rfl) (fun _ _ _ h => h) (Or.inl ⟨rfl, ?c15⟩) hH ?r15
  case c15 => (intro w' _; go_simp; (try with_reducible rfl))
  try simp only [Act.put, List.setIfInBounds_toArray, List.set_cons_zero, List.set_cons_succ]
  refine wpAnyH_take (i := 16) (oi := ⟨some 59, _, _, _, _, _⟩) (v := ?v16) rfl (by kernel_rfl) (by kernel_rfl) (by kernel_rfl) (fun _ _ _ h => h) (Or.inl ⟨rfl, ?c16⟩) hH ?r16
  case c16 => (intro w' _; go_simp; (try with_reducible rfl))
  try simp only [Act.put, List.setIfInBounds_toArray, List.set_cons_zero, List.set_cons_succ]
  refine wpAnyH_take (i := 17) (oi := ⟨some 60, _, _, _, _, _⟩) (v := ?v17) rfl (by kernel_rfl) (by kernel_rfl) (by kernel_rfl) (fun _ _ _ h => h) (Or.inl ⟨rfl, ?c17⟩) hH ?r17
  case c17 => (intro w' _; go_simp; (try with_reducible rfl))
  try simp only [Act.put, List.setIfInBounds_toArray, List.set_cons_zero, List.set_cons_succ]
  refine wpAnyH_take (i := 18) (oi := ⟨some 61, _, _, _, _, _⟩) (v := ?v18) rfl (by kernel_rfl) (by kernel_rfl) (by kernel_rfl) (fun _ _ _ h => h) (Or.inl ⟨rfl, ?c18⟩) hH ?r18
  case c18 => (intro w' _; go_simp; (try with_reducible rfl))
  try simp only [Act.put, List.setIfInBounds_toArray, List.set_cons_zero, List.set_cons_succ]
  refine wpAnyH_take (i := 19) (oi := ⟨some 62, _, _, _, _, _⟩) (v := ?v19) rfl (by kernel_rfl) (by kernel_rfl) (by kernel_rfl) (fun _ _ _ h => h) (Or.inl ⟨rfl, ?c19⟩) hH ?r19
  case c19 => (intro w' _; go_simp; (try with_reducible rfl))
  try simp only [Act.put, List.setIfInBounds_toArray, List.set_cons_zero, List.set_cons_succ]
  refine wpAnyH_take (i := 20) (oi := ⟨some 63, _, _, _, _, _⟩) (v := ?v20) rfl (by kernel_rfl) (by kernel_rfl) (by kernel_rfl) (fun _ _ _ h => h) (Or.inl ⟨rfl, ?c20⟩) hH ?r20
  case c20 => (intro w' _; go_simp; (try with_reducible rfl))
  try simp only [Act.put, List.setIfInBounds_toArray, List.set_cons_zero, List.set_cons_succ]
  refine wpAnyH_take (i := 21) (oi := ⟨some 64, _, _, _, _, _⟩) (v := ?v21) rfl (by kernel_rfl) (by kernel_rfl) (by kernel_rfl) (fun _ _ _ h => h) (Or.inl ⟨rfl, ?c21⟩) hH ?r21
  case c21 => (intro w' _; go_simp; (try with_reducible rfl))
  try simp only [Act.put, List.setIfInBounds_toArray, List.set_cons_zero, List.set_cons_succ]
  refine wpAnyH_take (i := 22) (oi := ⟨some 65, _, _, _, _, _⟩) (v := ?v22) rfl (by kernel_rfl) (by kernel_rfl) (by kernel_rfl) (fun _ _ _ h => h) (Or.inl ⟨rfl, ?c22⟩) hH ?r22
  case c22 => (intro w' hS; refine take_six hS.1 HZ.out (.tmp 8) ?_ ?_ <;> rfl)
  try simp only [Act.put, List.setIfInBounds_toArray, List.set_cons_zero, List.set_cons_succ]
  refine wpAnyH_take (i := 23) (oi := ⟨some 66, _, _, _, _, _⟩) (v := ?v23) rfl (by kernel_rfl) (by kernel_rfl) (by kernel_rfl) (fun _ _ _ h => h) (Or.inl ⟨rfl, ?c23⟩) hH ?r23
  case c23 => (intro w' _; go_simp; (try with_reducible rfl))
  try simp only [Act.put, List.setIfInBounds_toArray, List.set_cons_zero, List.set_cons_succ]
  refine wpAnyH_take (i := 24) (oi := ⟨some 67, _, _, _, _, _⟩) (v := ?v24) rfl (by kernel_rfl) (by kernel_rfl) (by kernel_rfl) (fun _ _ _ h => h) (Or.inl ⟨rfl, ?c24⟩) hH ?r24
  case c24 => (intro w' _; go_simp; (try with_reducible rfl))
  try simp only [Act.put, List.setIfInBounds_toArray, List.set_cons_zero, List.set_cons_succ]
  refine wpAnyH_take (i := 26) (oi := ⟨some 69, _, _, _, _, _⟩) (v := ?v25) rfl (by kernel_rfl) (by kernel_rfl) (by kernel_rfl) (fun _ _ _ h => h) (Or.inl ⟨rfl, ?c25⟩) hH ?r25
  case c25 => (intro w' hS; refine take_six hS.1 HZ.out (.tmp 8) ?_ ?_ <;> rfl)
  try simp only [Act.put, List.setIfInBounds_toArray, List.set_cons_zero, List.set_cons_succ]
  refine wpAnyH_take (i := 27) (oi := ⟨some 70, _, _, _, _, _⟩) (v := ?v26) rfl (by kernel_rfl) (by kernel_rfl) (by kernel_rfl) (fun _ _ _ h => h) (Or.inl ⟨rfl, ?c26⟩) hH ?r26
  case c26 => (intro w' _; go_simp; (try with_reducible rfl))
  try simp only [Act.put, List.setIfInBounds_toArray, List.set_cons_zero, List.set_cons_succ]
  refine wpAnyH_take (i := 28) (oi := ⟨some 71, _, _, _, _, _⟩) (v := ?v27) rfl (by kernel_rfl) (by kernel_rfl) (by kernel_rfl) (fun _ _ _ h => h) (Or.inl ⟨rfl, ?c27⟩) hH ?r27
  case c27 => (intro w' _; go_simp; (try with_reducible rfl))
  try simp only [Act.put, List.setIfInBounds_toArray, List.set_cons_zero, List.set_cons_succ]
  refine wpAnyH_ready (rs := [25]) (by kernel_rfl) (by simp) (AllReadyH.cons rfl (fun K hK => ?_) (AllReadyH.nil))
  go_simp
  go_at_call 11
  refine (C4.out _).mono ?_
  rintro e w6 ⟨rfl, hbp⟩
  refine hK.out _ _ (⟨hH.1.next hbp, hH.2.trans (hbp.mono hH.2.size)⟩) (fun hH => ?_)
  clear hK K
  clear hbp
  try simp only [Act.put, List.setIfInBounds_toArray, List.set_cons_zero, List.set_cons_succ]
  refine wpAnyH_ready (rs := [29]) (by kernel_rfl) (by simp) (AllReadyH.cons rfl (fun K hK => ?_) (AllReadyH.nil))
  go_simp
  go_at_call 12
  refine (C5.out _).mono ?_
  rintro e w6 ⟨rfl, hbp⟩
  refine hK.out _ _ (⟨hH.1.next hbp, hH.2.trans (hbp.mono hH.2.size)⟩) (fun hH => ?_)
  clear hK K
  clear hbp
  try simp only [Act.put, List.setIfInBounds_toArray, List.set_cons_zero, List.set_cons_succ]
  refine wpAnyH_take (i := 30) (oi := ⟨some 73, _, _, _, _, _⟩) (v := ?v28) rfl (by kernel_rfl) (by kernel_rfl) (by kernel_rfl) (fun _ _ _ h => h) (Or.inl ⟨rfl, ?c28⟩) hH ?r28
  case c28 => (intro w' _; go_simp; (try with_reducible rfl))
  try simp only [Act.put, List.setIfInBounds_toArray, List.set_cons_zero, List.set_cons_succ]
  refine wpAnyH_take (i := 31) (oi := ⟨some 74, _, _, _, _, _⟩) (v := ?v29) rfl (by kernel_rfl) (by kernel_rfl) (by kernel_rfl) (fun _ _ _ h => h) (Or.inl ⟨rfl, ?c29⟩) hH ?r29
  case c29 => (intro w' _; go_simp; (try with_reducible rfl))
  try simp only [Act.put, List.setIfInBounds_toArray, List.set_cons_zero, List.set_cons_succ]
  refine wpAnyH_take (i := 32) (oi := ⟨some 10, _, _, _, _, _⟩) (v := ?v30) rfl (by kernel_rfl) (by kernel_rfl) (by kernel_rfl) (fun _ _ _ h => h) (Or.inl ⟨rfl, ?c30⟩) hH ?r30
  case c30 => (intro w' _; go_simp; (try with_reducible rfl))
  try simp only [Act.put, List.setIfInBounds_toArray, List.set_cons_zero, List.set_cons_succ]
  refine wpAnyH_done (by kernel_rfl) ?_ _
  go_wp2_with fail
  go_ret
  exact ⟨rfl, hH.2⟩
end Fs
end Go.Proofs.Ytmbdhcfhackgfaa
