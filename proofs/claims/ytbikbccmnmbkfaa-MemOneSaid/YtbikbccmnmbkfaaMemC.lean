/- Layer 19: the contracts of the program's Look, Holder, Words, Load, Swap, Lock, Unlock, Read, Write, More. -/
import Derived.Test.YtbikbccmnmbkfaaMemB
set_option linter.unusedVariables false
set_option linter.unusedSimpArgs false
set_option maxRecDepth 100000
namespace Go.Proofs.Ytbikbccmnmbkfaa
open Go.ChangeShapes Go.WideShapes Go.ChangeAt Go.RowKit Go.Mtl Go.Lib
namespace Me
open MemM
/-- Block B holds a memory of the program's. -/
def MAt (w : World) (O : Nat → Prop) (B : Nat) (s : Ms) : Prop := (∃ vw vh vl, Mm T1 w O B vw vh vl s.ws s.hs s.ls) ∧ Ok s
section
variable {w w' : World} {O O' : Nat → Prop} {B : Nat} {s : Ms}
theorem MAt.far (H : MAt w O B s) (h : Only O' w w') (hd : ∀ j, O j → ¬ O' j) : MAt w' O B s := by
  obtain ⟨⟨vw, vh, vl, h1⟩, h2⟩ := H
  exact ⟨⟨vw, vh, vl, h1.far h hd⟩, h2⟩
theorem MAt.next (H : MAt w O B s) (hb : Below w.heap.size w w') : MAt w' O B s := H.far (O' := fun _ => False) (Only.of_below hb) (fun _ _ e => e)
theorem MAt.lt (H : MAt w O B s) : ∀ j, O j → j < w.heap.size := by
  obtain ⟨⟨vw, vh, vl, h1⟩, h2⟩ := H
  exact h1.lt

theorem look_any (H : MAt w O B s) (i : Int) : Calls Try.prog 25 #[ptr B, .int .i64 i] w fun e w' => e = .returned (.int .u64 (lookV s i)) ∧ w = w' := by
  obtain ⟨⟨vw, vh, vl, H⟩, hok⟩ := H
  cases hb : has s.ws.length i with
  | false =>
    have e : lookV s i = 0 := by unfold lookV; rw [hb]; rfl
    rw [e]
    have HC := Lib.hid (hasWord_any H i hb)
    clear H e hb hok
    go_enter Try.func25, Try.ntmps25
    go_wp2_with (go_at_call 32; refine HC.out.mono ?_; rintro e w' ⟨rfl, rfl⟩)
    go_ret
    exact ⟨rfl, rfl⟩
  | true =>
    have HC := Lib.hid (hasWord_any H i hb)
    have e : lookV s i = at_ s.ws i := by unfold lookV; rw [hb]; rfl
    rw [e]
    obtain ⟨j, rfl, hj⟩ := has_yes hb
    rw [at_nat]
    obtain ⟨g, c, rfl, h1, h2, -, c1, -⟩ := H.word hj
    have c0 := H.blk.cell 0 _ rfl
    generalize s.ws.getD j 0 = x at *
    clear H e hb hok
    go_enter Try.func25, Try.ntmps25
    go_wp2_with (go_at_call 32; refine HC.out.mono ?_; rintro e w' ⟨rfl, rfl⟩)
    go_ret
    exact ⟨rfl, rfl⟩
theorem holder_any (H : MAt w O B s) (i : Int) : Calls Try.prog 22 #[ptr B, .int .i64 i] w fun e w' => e = .returned (.int .i64 (holdV s i)) ∧ w = w' := by
  obtain ⟨⟨vw, vh, vl, H⟩, hok⟩ := H
  cases hb : has s.hs.length i with
  | false =>
    have e : holdV s i = -1 := by unfold holdV; rw [hb]; rfl
    rw [e]
    have HC := Lib.hid (hasLock_any H i hb)
    clear H e hb hok
    go_enter Try.func22, Try.ntmps22
    go_wp2_with (go_at_call 35; refine HC.out.mono ?_; rintro e w' ⟨rfl, rfl⟩)
    go_ret
    exact ⟨rfl, rfl⟩
  | true =>
    have HC := Lib.hid (hasLock_any H i hb)
    have e : holdV s i = at_ s.hs i := by unfold holdV; rw [hb]; rfl
    rw [e]
    obtain ⟨j, rfl, hj⟩ := has_yes hb
    rw [at_nat]
    obtain ⟨g, c, rfl, h1, h2, -, c1, -⟩ := H.hold hj
    have c0 := H.blk.cell 1 _ rfl
    generalize s.hs.getD j 0 = x at *
    clear H e hb hok
    go_enter Try.func22, Try.ntmps22
    go_wp2_with (go_at_call 35; refine HC.out.mono ?_; rintro e w' ⟨rfl, rfl⟩)
    go_ret
    exact ⟨rfl, rfl⟩
theorem words_any (H : MAt w O B s) : Calls Try.prog 24 #[ptr B] w fun e w' => e = .returned (.int .i64 (s.ws.length : Int)) ∧ w = w' := by
  obtain ⟨⟨vw, vh, vl, H⟩, hok⟩ := H
  obtain ⟨A, c, rfl, h1, h2⟩ := H.len0
  have c0 := H.blk.cell 0 _ rfl
  clear H hok
  go_enter Try.func24, Try.ntmps24
  go_wp2_with fail
  go_ret
  exact ⟨rfl, rfl⟩
/-- A call that may turn the memory's own blocks. -/
def Does (w : World) (O : Nat → Prop) (B : Nat) (v : Value) (s' : Ms) (e : Ending) (w' : World) : Prop :=
  ∃ O', e = .returned v ∧ MAt w' O' B s' ∧ Only O w w' ∧ ∀ j, O' j → O j ∨ w.heap.size ≤ j
set_option maxHeartbeats 1000000 in
theorem load_any (H : MAt w O B s) (t i : Int) (hl : s.ls.length ≤ 1000000000000) : Calls Try.prog 11 #[ptr B, .int .i64 t, .int .i64 i] w (Does w O B (.int .u64 (lookV s i)) (loadS s t i)) := by
  have hok2 := H.2.load t i
  obtain ⟨⟨vw, vh, vl, H1⟩, hok⟩ := H
  cases hb : has s.ws.length i with
  | false =>
    have e2 : loadS s t i = s := by unfold loadS; rw [hb]; rfl
    rw [e2]
    have HC := Lib.hid (hasWord_any H1 i hb)
    have HM : Hid (MAt w O B s) := ⟨⟨vw, vh, vl, H1⟩, hok⟩
    have HL := Lib.hid (look_any HM.out i)
    generalize lookV s i = x at HL ⊢
    clear H1 e2 hb hok hok2
    go_enter Try.func11, Try.ntmps11
    go_wp2_with fail
    go_at_call 32
    refine HC.out.mono ?_
    rintro e w' ⟨rfl, rfl⟩
    go_wp2_with fail
    go_at_call 25
    refine HL.out.mono ?_
    rintro e w' ⟨rfl, rfl⟩
    go_wp2_with fail
    go_ret
    exact ⟨O, rfl, HM.out, Only.refl _ _, fun j hj => .inl hj⟩
  | true =>
    have HC := Lib.hid (hasWord_any H1 i hb)
    have e2 : loadS s t i = say s t 3 (3 * i) := by unfold loadS; rw [hb]; rfl
    have e3 : lookV (say s t 3 (3 * i)) i = lookV s i := rfl
    rw [e2] at hok2 ⊢
    have hi : 0 ≤ i ∧ i ≤ 1099511627776 := by obtain ⟨j, rfl, hj⟩ := has_yes hb; have := hok.wl; omega
    have HR := Lib.hid (record_any H1 t 3 i 0 (3 * i) hi (by omega) (by omega) hl)
    have HK := Lib.hid hok2
    have HL : Hid (∀ W O', MAt W O' B (say s t 3 (3 * i)) → Calls Try.prog 25 #[ptr B, .int .i64 i] W fun e w' => e = .returned (.int .u64 (lookV s i)) ∧ W = w') := fun W O' h => e3 ▸ look_any h i
    generalize lookV s i = x at HL ⊢
    clear H1 e2 e3 hb hok hok2 hi hl
    go_enter Try.func11, Try.ntmps11
    go_wp2_with fail
    go_at_call 32
    refine HC.out.mono ?_
    rintro e w' ⟨rfl, rfl⟩
    go_wp2_with fail
    go_at_call 33
    refine HR.out.mono ?_
    rintro e w1 ⟨O', v, rfl, hm, ho, hO⟩
    have HM : Hid (MAt w1 O' B (say s t 3 (3 * i))) := ⟨⟨_, _, _, hm⟩, HK.out⟩
    have HO := Lib.hid ho
    have HP := Lib.hid hO
    clear hm ho hO
    go_wp2_with fail
    go_at_call 25
    refine (HL.out _ _ HM.out).mono ?_
    rintro e w' ⟨rfl, rfl⟩
    go_wp2_with fail
    go_ret
    exact ⟨O', rfl, HM.out, HO.out, HP.out⟩
end
end Me
end Go.Proofs.Ytbikbccmnmbkfaa
